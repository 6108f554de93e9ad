/- Contracts of blame: At. -/
import Derived.Test.YtkhhiddemihnbaaDoorKm
namespace Go.Proofs.YtkhhiddemihnbaaDoor
open Go.RowKit Go.Shelf
theorem cell_new2 (w : World) (x y : Value) (e : TypeId) : (w.alloc (.cells #[x, y] e)).cell? ⟨w.heap.size, 0, none⟩ = some x ∧ (w.alloc (.cells #[x, y] e)).cell? ⟨w.heap.size, 1, none⟩ = some y := by
  have h := heap_alloc_new w (.cells #[x, y] e)
  exact ⟨cell_of_row _ _ 0 _ _ (0, 0) h, cell_of_row _ _ 1 _ _ (0, 0) h⟩
set_option maxHeartbeats 400000 in
theorem at_nil (s : ByteArray) (w : World) : Calls Tryd.prog 26 #[.string s, .nilIface] w fun e w' => e = .returned .nilIface ∧ w' = w := by
  go_enter Tryd.func26, Tryd.ntmps26
  go_wp2
  go_ret
  exact ⟨rfl, rfl⟩
set_option maxHeartbeats 400000 in
theorem at_some (s : ByteArray) (t : TypeId) (q : Value) (w : World) : Calls Tryd.prog 26 #[.string s, .iface t q] w fun e w' => e = .returned (.iface 103 (.pointer (some ⟨w.heap.size, 0, none⟩))) ∧ w' = w.alloc (.cells #[.string s, .iface t q] 105) := by
  go_enter Tryd.func26, Tryd.ntmps26
  go_wp2
  go_ret
  exact ⟨rfl, rfl⟩
/-- At, of one sentinel inside Blames. -/
theorem at_chain (Ad : Nat → Addr) (s : ByteArray) (d : Nat) (v : Value) (p : List ByteArray × Nat) (w : World) (h : Chn Ad w.heap.size w d v p) :
    Calls Tryd.prog 26 #[.string s, v] w fun e w' => ∃ v', e = .returned v' ∧ Chn Ad w'.heap.size w' (d + 1) v' (s :: p.1, p.2) ∧ Below w.heap.size w w' := by
  obtain ⟨t, q, rfl, _⟩ := h.1.shape
  refine (at_some s t q w).mono ?_
  rintro e w' ⟨rfl, rfl⟩
  have hb : Below w.heap.size w (w.alloc (.cells #[.string s, .iface t q] 105)) := (Below.refl _ _).alloc (Nat.le_refl _) _
  obtain ⟨c0, c1⟩ := cell_new2 w (.string s) (.iface t q) 105
  have hc := h.move hb hb.size
  exact ⟨_, rfl, ⟨⟨w.heap.size, _, rfl, by simp, c0, c1, hc.1⟩, hc.2.1, hc.2.2.1, by have := h.2.2.2; simp; omega⟩, hb⟩
end Go.Proofs.YtkhhiddemihnbaaDoor
