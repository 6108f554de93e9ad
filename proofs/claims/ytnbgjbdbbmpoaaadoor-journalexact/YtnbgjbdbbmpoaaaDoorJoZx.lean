/- What the card of JournalExact uses: the door's own heap meets its row's list. -/
import Derived.Test.YtnbgjbdbbmpoaaaDoorJoZq
import Derived.Test.YtnbgjbdbbmpoaaaDoorKl
namespace Go.Proofs.YtnbgjbdbbmpoaaaDoor.Jo
open Go.ChangeShapes Go.WideShapes Go.ChangeAt Go.RowKit Go.Shelf
theorem door_met (os : Os) (args : Array Value) : laidMetH Tryd.prog Rows.journalExactRow.laid ((World.doorLaid Tryd.prog 351 os).forCall (fun _ _ => 0) ⟨#[], args, []⟩).memory :=
  laidMetH_of_parts3 (fuel := 8) (laidMet_of_run' 8 (by kernel_rfl) (by kernel_rfl)) (by kernel_rfl) (by kernel_rfl)
theorem env_of {W : World} (h : laidMetH Tryd.prog Rows.journalExactRow.laid W) : ∃ Ad, Env W Ad := by
  rw [MakeChecks.laidMetH_plain _ _ _ (by kernel_rfl)] at h
  exact env18 h
end Go.Proofs.YtnbgjbdbbmpoaaaDoor.Jo
