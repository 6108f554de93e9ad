/- The same numbers. -/
import Derived.Test.YtkhhiddemihnbaaDoorCwBf
namespace Go.Proofs.YtkhhiddemihnbaaDoor.Cw
open Go.RowKit Go.Shelf
/-- Numbers in memory. -/
def IRow (W : World) (v : Value) (ds : List Int) : Prop := ∃ a c, v = .slice a ds.length c ∧ (ds = [] ∨ ∃ b o, a = some ⟨b, o, none⟩ ∧ ∀ (j : Nat) x, ds[j]? = some x → W.cell? ⟨b, o + j, none⟩ = some (.int .i64 x))
theorem IRow.later {W W' : World} {v : Value} {l : List Int} (h : IRow W v l) (hb : Below W.heap.size W W') : IRow W' v l := by
  obtain ⟨a, c, h1, h3⟩ := h
  exact ⟨a, c, h1, h3.imp id fun ⟨b, o, q1, q2⟩ => ⟨b, o, q1, fun j x hj => seen hb (Nat.le_refl _) (q2 j x hj)⟩⟩
theorem irow_blk {W : World} {b : Nat} {d : List Int} {c : Nat} (h : W.heap[b]? = some (.cells (d.map gZ).toArray 3 (0, 0))) : IRow W (.slice (some ⟨b, 0, none⟩) d.length c) d :=
  ⟨_, _, rfl, .inr ⟨b, 0, rfl, fun j x hj => by rw [Nat.zero_add]; exact cell_blk h (by simp [hj, gZ])⟩⟩
theorem drewN_below (W : World) (n : Nat) : Below W.heap.size W (W.drewN n) := Bq (Below.refl _ _) n
set_option maxHeartbeats 1600000 in
set_option maxRecDepth 100000 in
theorem same_any (W : World) (v u : Value) (xs : List Int) (h : IRow W v xs) (h' : IRow W u xs) (hl : xs.length ≤ 1000) :
    Calls Tryd.prog 21 #[v, u] W fun e W' => e = .returned (.bool true) ∧ Below W.heap.size W W' := by
  have H := hid h
  have H' := hid h'
  obtain ⟨a, c, rfl, -⟩ := h
  obtain ⟨a', c', rfl, -⟩ := h'
  have hli : (xs.length : Int) ≤ 1000 := by omega
  go_enter Tryd.func21, Tryd.ntmps21
  go_wp2_with fail
  go_loopg [5] xs.length (fun gh i wr => ∃ k : Nat, k ≤ xs.length ∧ gh = xs.length - k ∧ i = .int .i64 (k : Int) ∧ Hid (Below W.heap.size W wr))
  case atStart => exact ⟨0, Nat.zero_le _, rfl, rfl, Below.refl _ _⟩
  case round =>
    rename World => wr
    obtain ⟨k, hk, rfl, rfl, HB⟩ := hrel
    by_cases hlt : k < xs.length
    · have hki : (k : Int) < (xs.length : Int) := by omega
      obtain ⟨x, hx⟩ := at_lt xs k hlt
      obtain ⟨b, o, rfl, d0⟩ : ∃ b o, a = some ⟨b, o, none⟩ ∧ wr.cell? ⟨b, o + k, none⟩ = some (.int .i64 x) := by
        obtain ⟨a2, c2, hv, hl2⟩ := H.out.later HB.out
        obtain ⟨rfl, rfl⟩ : a = a2 ∧ c = c2 := by simpa using hv
        rcases hl2 with q | ⟨b, o, q1, q2⟩
        · rw [q] at hlt; simp at hlt
        · exact ⟨b, o, q1, q2 k x hx⟩
      obtain ⟨b', o', rfl, d1⟩ : ∃ b o, a' = some ⟨b, o, none⟩ ∧ wr.cell? ⟨b, o + k, none⟩ = some (.int .i64 x) := by
        obtain ⟨a2, c2, hv, hl2⟩ := H'.out.later HB.out
        obtain ⟨rfl, rfl⟩ : a' = a2 ∧ c' = c2 := by simpa using hv
        rcases hl2 with q | ⟨b, o, q1, q2⟩
        · rw [q] at hlt; simp at hlt
        · exact ⟨b, o, q1, q2 k x hx⟩
      clear hx
      go_wp2_with fail
      go_quiet (fail)
      go_wp2_with fail
      go_roundg (xs.length - (k + 1))
      case measure => omega
      case rel => exact ⟨k + 1, by omega, rfl, by go_num, by first | exact HB.out | exact HB.out.drew | exact HB.out.trans ((drewN_below _ _).mono HB.out.size)⟩
    · have hki : ¬ (k : Int) < (xs.length : Int) := by omega
      clear hk hlt
      go_wp2_with fail
      go_ret
      exact ⟨rfl, HB.out⟩
end Go.Proofs.YtkhhiddemihnbaaDoor.Cw
