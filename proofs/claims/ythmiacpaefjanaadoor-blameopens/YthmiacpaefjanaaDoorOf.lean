/- What BlameOpens' row lays: the sentinels, and the type of errors. -/
import Derived.Test.YthmiacpaefjanaaDoorOe
import Derived.Test.YthmiacpaefjanaaDoorPb
import Derived.LaidHandle
import Derived.RowKitTokens
namespace Go.Proofs.YthmiacpaefjanaaDoor
open Go.ChangeShapes Go.WideShapes Go.ChangeAt Go.RowKit
theorem opens_laid {W : World} (h : laidMetH Tryd.prog Rows.blameOpensRow.laid W) : laidMet Tryd.prog Rows.blameNamesRow.laid W ∧ handlesMet Tryd.prog [("errors.errorType", Rows.laid_errors_errorType)] W := by
  have e1 : (Rows.blameOpensRow.laid.filter fun x => x.2.handleName?.isSome) = [("errors.errorType", Rows.laid_errors_errorType)] := by kernel_rfl
  have e2 : (Rows.blameOpensRow.laid.filter fun x => x.2.handleName?.isNone) = Rows.blameNamesRow.laid := by kernel_rfl
  unfold laidMetH at h
  rw [e1] at h
  simp only [e2] at h
  exact h
theorem of_et : Tryd.prog.globalNamed "errors.errorType" = some 18 := by kernel_rfl
theorem of_rt : (Tryd.prog.cutTypes.find? (·.1 == "internal/reflectlite.rtype")).map (·.2) = some 103 := by kernel_rfl
theorem of_size : Tryd.prog.types.size = 146 := by kernel_rfl
theorem of_row : ((List.range 146).filter fun t => Tryd.prog.rowNamed t [101, 114, 114, 111, 114]) = [26] := by kernel_rfl
theorem of_handle {W : World} (h : handlesMet Tryd.prog [("errors.errorType", Rows.laid_errors_errorType)] W) : ErrT W := by
  obtain ⟨name, u, ty, e1, e2, e3, e4, e5⟩ := h _ (List.mem_singleton.2 rfl)
  have en : name = [101, 114, 114, 111, 114] := (Option.some.inj e1).symm
  subst en
  obtain rfl := Option.some.inj (of_rt.symm.trans e2)
  have hm : ty ∈ (List.range 146).filter fun t => Tryd.prog.rowNamed t [101, 114, 114, 111, 114] := List.mem_filter.2 ⟨List.mem_range.2 (by rw [← of_size]; exact e3), e4⟩
  rw [of_row] at hm
  obtain rfl := List.mem_singleton.1 hm
  have hh : typeHandle Tryd.prog 26 = .pointer (some ⟨20, 26, none⟩) := by kernel_rfl
  rw [hh] at e5
  unfold ErrT
  simpa using World.var?_cell of_et e5 0
theorem door_met2 (os : Os) (args : Array Value) : laidMetH Tryd.prog Rows.blameOpensRow.laid ((World.doorLaid Tryd.prog 358 os).forCall (fun _ _ => 0) ⟨#[], args, []⟩).memory :=
  laidMetH_of_parts3 (fuel := 8) (laidMet_of_run' 8 (by kernel_rfl) (by kernel_rfl)) (by kernel_rfl) (by kernel_rfl)
end Go.Proofs.YthmiacpaefjanaaDoor
