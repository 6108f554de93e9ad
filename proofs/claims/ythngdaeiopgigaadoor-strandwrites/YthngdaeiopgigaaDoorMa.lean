/- Plain mathematics of strand: a number of any sign as one from 0 on. -/
import Derived.WalkKit
import Derived.Laws.Bits64
import Derived.Laws.BitsAllLaws
namespace Go.Proofs.YthngdaeiopgigaaDoor
open Go.RowKit
def I64 (n : Int) : Prop := -9223372036854775808 ≤ n ∧ n ≤ 9223372036854775807
theorem not_i64 (n : Int) (h : I64 n) : bits .xor .i64 (-1) n = -n - 1 := by
  obtain ⟨h1, h2⟩ := h
  show IntKind.i64.wrap ((BitVec.ofInt 64 (-1) ^^^ BitVec.ofInt 64 n).toNat : Int) = _
  have e : BitVec.ofInt 64 (-1) ^^^ BitVec.ofInt 64 n = ~~~ BitVec.ofInt 64 n := by
    have : BitVec.ofInt 64 (-1) = BitVec.allOnes 64 := by decide
    rw [this, BitVec.allOnes_xor]
  rw [e, BitVec.toNat_not, BitVec.toNat_ofInt, IntKind.wrap_i64]
  have hz : (0 : Int) ≤ n % 18446744073709551616 := Int.emod_nonneg _ (by decide)
  have hz2 : n % 18446744073709551616 < 18446744073709551616 := Int.emod_lt_of_pos _ (by decide)
  have e2 : (((2 ^ 64 - 1 - (n % ((2 ^ 64 : Nat) : Int)).toNat : Nat)) : Int) = 18446744073709551615 - n % 18446744073709551616 := by
    have : ((2 ^ 64 : Nat) : Int) = 18446744073709551616 := by decide
    rw [this]; omega
  rw [e2]
  omega
/-- A number of any sign as one from 0 on. -/
def zig (n : Int) : Nat := if n < 0 then (-2 * n - 1).toNat else (2 * n).toNat
theorem zig_lt (n : Int) (h : I64 n) : zig n < 18446744073709551616 := by
  obtain ⟨h1, h2⟩ := h; unfold zig; split <;> omega
theorem fold_neg_eq (n : Int) (h : I64 n) (hn : n < 0) : bits .or .u64 (IntKind.u64.wrap (IntKind.u64.wrap (bits .xor .i64 (-1) n) * 2)) 1 = (zig n : Nat) := by
  have h0 := h
  obtain ⟨h1, h2⟩ := h
  rw [not_i64 n h0]
  have e : IntKind.u64.wrap (IntKind.u64.wrap (-n - 1) * 2) = (((-n - 1) * 2).toNat : Nat) := by
    rw [IntKind.wrap_u64, IntKind.wrap_u64]; omega
  rw [e, show (1 : Int) = ((1 : Nat) : Int) from rfl, u64_or_nat _ _ (by omega) (by omega), nat_join 1 _ _ (by omega) (by omega)]
  unfold zig; rw [if_pos hn]; omega
theorem fold_pos_eq (n : Int) (h : I64 n) (hn : 0 ≤ n) : IntKind.u64.wrap (IntKind.u64.wrap n * 2) = (zig n : Nat) := by
  obtain ⟨h1, h2⟩ := h
  rw [IntKind.wrap_u64, IntKind.wrap_u64]
  unfold zig; rw [if_neg (by omega)]; omega
def unzig (n : Nat) : Int := if n % 2 = 1 then -((n / 2 : Nat) : Int) - 1 else (n / 2 : Nat)
theorem unzig_zig (n : Int) : unzig (zig n) = n := by
  unfold unzig zig; split <;> split <;> omega
theorem zig_unzig (n : Nat) : zig (unzig n) = n := by
  unfold unzig zig; split <;> split <;> omega
theorem unzig_i64 (n : Nat) (h : n < 18446744073709551616) : I64 (unzig n) := by
  unfold unzig I64; split <;> omega
end Go.Proofs.YthngdaeiopgigaaDoor
