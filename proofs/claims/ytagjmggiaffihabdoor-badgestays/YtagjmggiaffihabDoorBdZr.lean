/- An entity, out of its reading. -/
import Derived.Test.YtagjmggiaffihabDoorBdZp
namespace Go.Proofs.YtagjmggiaffihabDoor
open Go.ChangeShapes Go.WideShapes Go.ChangeAt Go.RowKit
open Go.Proofs.YtagjmggiaffihabDoor.Bd (I64)
theorem deepE : Tryd.prog.keyTypeAt (Tryd.prog.types.size + 1) 27 = true := Bd.keyT24
set_option maxRecDepth 100000 in
theorem entity_of {H : Type} {enc : TypeId × Value → H} {W : World} {v : Value} {d : DataW H} {ps : List MemPlace} (h : DataW.Trod enc Tryd.prog W 0 (fun _ => true) true 27 v d ps) (hv : ∃ cs, v = .agg cs) : ∃ i g : Int, v = .agg #[.int .i64 i, .int .i64 g] ∧ I64 i ∧ I64 g ∧ ps = [] := by
  have h0 := h
  obtain ⟨fuel, hf⟩ := h
  obtain ⟨arr, rfl⟩ := hv
  obtain ⟨i, g, e, wi, wg⟩ := ent_of hf
  obtain ⟨l⟩ := arr
  simp [Value.cells] at e
  subst e
  have hfm : (Bd.entV i g).formed Tryd.prog 27 = true := by
    unfold Bd.entV Value.formed
    rw [Tryd.underlying27, Bd.cells24]
    rfl
  exact ⟨i, g, rfl, wi, wg, (keyOf_asKey deepE Bd.Tryd.wide24 hfm h0).2⟩
end Go.Proofs.YtagjmggiaffihabDoor
