/- BlameOpens: the walk. -/
import Derived.Test.YthmiacpaefjanaaDoorOc
import Derived.Test.YthmiacpaefjanaaDoorTh
namespace Go.Proofs.YthmiacpaefjanaaDoor
open Go.RowKit Go.Shelf
def bBlame : ByteArray := ⟨#[98, 108, 97, 109, 101]⟩
def bSeveral : ByteArray := ⟨#[115, 101, 118, 101, 114, 97, 108]⟩
set_option maxHeartbeats 400000 in
theorem err24 (v : Value) (w : World) : Calls Tryd.prog 24 #[v] w fun e w' => e = .returned (.string ⟨#[98, 108, 97, 109, 101]⟩) ∧ w' = w := by
  go_enter Tryd.func24, Tryd.ntmps24
  go_wp2
  go_ret
  exact ⟨rfl, rfl⟩
set_option maxHeartbeats 400000 in
theorem err26 (v : Value) (w : World) : Calls Tryd.prog 26 #[v] w fun e w' => e = .returned (.string ⟨#[115, 101, 118, 101, 114, 97, 108]⟩) ∧ w' = w := by
  go_enter Tryd.func26, Tryd.ntmps26
  go_wp2
  go_ret
  exact ⟨rfl, rfl⟩
set_option maxHeartbeats 400000 in
theorem unwrap_none (w : World) : Calls Tryd.prog 23 #[.pointer none] w fun e w' => e = .returned .nilIface ∧ w' = w := by
  go_enter Tryd.func23, Tryd.ntmps23
  go_wp2
  go_ret
  exact ⟨rfl, rfl⟩
set_option maxHeartbeats 400000 in
theorem unwraps_none (w : World) : Calls Tryd.prog 25 #[.pointer none] w fun e w' => e = .returned (.slice none 0 0) ∧ w' = w := by
  go_enter Tryd.func25, Tryd.ntmps25
  go_wp2
  go_ret
  exact ⟨rfl, rfl⟩
/-- A box that errors.As fills. -/
theorem filled {w w1 w2 : World} {x : Value} {e : TypeId} {p : Value} (h1 : Below (w.alloc (.cells #[x] e)).heap.size (w.alloc (.cells #[x] e)) w1) (h2 : Below w1.heap.size w1 w2) :
    Below w.heap.size w (w2.setCell ⟨w.heap.size, 0, none⟩ p) ∧ (w2.setCell ⟨w.heap.size, 0, none⟩ p).cell? ⟨w.heap.size, 0, none⟩ = some p := by
  have h3 := h1.trans (h2.mono h1.size)
  have h4 : Below w.heap.size w w2 := ((Below.refl _ _).alloc (Nat.le_refl _) _).trans (h3.mono (by simp))
  refine ⟨h4.setCell (Nat.le_refl _) _, ?_⟩
  have hc : w2.cell? ⟨w.heap.size, 0, none⟩ = some x := (h3.cell (p := ⟨w.heap.size, 0, none⟩) (by simp)).trans (new_cell w x e)
  exact World.cell?_setCell_same' _ _ _ (by rw [hc]; rfl)
end Go.Proofs.YthmiacpaefjanaaDoor
