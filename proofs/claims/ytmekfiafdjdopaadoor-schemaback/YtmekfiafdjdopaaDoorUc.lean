/- awake: plain facts. -/
import Derived.Test.YtmekfiafdjdopaaDoorUb
import Derived.Test.YtmekfiafdjdopaaDoorSg
namespace Go.Proofs.YtmekfiafdjdopaaDoor
open Go.RowKit Go.Shelf
theorem top_some {Ad : Nat → Addr} {n₀ d : Nat} {W : World} {v : Value} {ls : Leaves} (h : Top Ad n₀ W d v ls) (hl : ls ≠ []) : ∃ t q, v = .iface t q := by
  cases h using Top.ways with
  | empty => exact absurd rfl hl
  | one v p h => obtain ⟨t, q, hv, -⟩ := h.1.shape; exact ⟨t, q, hv⟩
  | many b vs h => exact ⟨_, _, rfl⟩
theorem top_nil {Ad : Nat → Addr} {n₀ d : Nat} {W : World} {v : Value} (h : Top Ad n₀ W d v []) : v = .nilIface := by
  generalize hl : ([] : Leaves) = ls at h
  cases h using Top.ways with
  | empty => rfl
  | one v p h => simp at hl
  | many b vs h =>
    have h1 := h.two
    have h2 := congrArg List.length hl
    simp at h2
    omega
def bPos : ByteArray := ⟨#[112, 111, 115]⟩
def cA : Cmp := ⟨bPos, 2, true, 0, 0, 0, 0⟩
def cB : Cmp := ⟨bPos, 9, false, 0, 0, 0, 0⟩
theorem check2 : checkL [cA, cB] [] = [([bComps, dig 1, bName], 9), ([bComps, dig 1, bWidth], 1)] := by kernel_rfl
theorem check0 : checkL [] [] = [] := by kernel_rfl
theorem join1 : joinB [bComps, dig 1, bName] = ⟨#[99, 111, 109, 112, 111, 110, 101, 110, 116, 115, 47, 49, 47, 110, 97, 109, 101]⟩ := by kernel_rfl
theorem join2 : joinB [bComps, dig 1, bWidth] = ⟨#[99, 111, 109, 112, 111, 110, 101, 110, 116, 115, 47, 49, 47, 119, 105, 100, 116, 104]⟩ := by kernel_rfl
theorem eqL1 (w : World) : (binOp .eql 36 (.agg #[.string ⟨#[99, 111, 109, 112, 111, 110, 101, 110, 116, 115, 47, 49, 47, 110, 97, 109, 101]⟩, .int .i64 9]) (.agg #[.string ⟨#[99, 111, 109, 112, 111, 110, 101, 110, 116, 115, 47, 49, 47, 110, 97, 109, 101]⟩, .int .i64 9])).run Tryd.prog w = .ok (.bool true) w := by kernel_rfl
theorem eqL2 (w : World) : (binOp .eql 36 (.agg #[.string ⟨#[99, 111, 109, 112, 111, 110, 101, 110, 116, 115, 47, 49, 47, 119, 105, 100, 116, 104]⟩, .int .i64 1]) (.agg #[.string ⟨#[99, 111, 109, 112, 111, 110, 101, 110, 116, 115, 47, 49, 47, 119, 105, 100, 116, 104]⟩, .int .i64 1])).run Tryd.prog w = .ok (.bool true) w := by kernel_rfl
theorem eqP (w : World) : (binOp .eql 42 (.agg #[.int .i64 0, .int .i64 0, .int .i64 0, .int .i64 0, .int .i64 0, .int .i64 7]) (.agg #[.int .i64 0, .int .i64 0, .int .i64 0, .int .i64 0, .int .i64 0, .int .i64 7])).run Tryd.prog w = .ok (.bool true) w := by kernel_rfl
theorem kindA : kindM [cA, cB] true (min [cA, cB].length 32) = 1 := by kernel_rfl
theorem kindB : kindM [cA, cB] false (min [cA, cB].length 32) = 2 := by kernel_rfl
theorem of03 : ofM [0, 3] = 9 := by kernel_rfl
end Go.Proofs.YtmekfiafdjdopaaDoor
