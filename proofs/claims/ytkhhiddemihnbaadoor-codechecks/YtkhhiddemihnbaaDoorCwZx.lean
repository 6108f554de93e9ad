/- What the card of CodeChecks uses: the door's own heap meets its row's list. -/
import Derived.Test.YtkhhiddemihnbaaDoorCwZq
import Derived.Test.YtkhhiddemihnbaaDoorCwWa
import Derived.Test.YtkhhiddemihnbaaDoorKl
namespace Go.Proofs.YtkhhiddemihnbaaDoor.Cw
open Go.ChangeShapes Go.WideShapes Go.ChangeAt Go.RowKit Go.Shelf
theorem door_met18 (os : Os) (args : Array Value) : laidMetH Tryd.prog Rows.codeChecksRow.laid ((World.doorLaid Tryd.prog 407 os).forCall (fun _ _ => 0) ⟨#[], args, []⟩).memory :=
  laidMetH_of_parts3 (fuel := 8) (laidMet_of_run' 8 (by kernel_rfl) (by kernel_rfl)) (by kernel_rfl) (by kernel_rfl)
theorem laid_plain18 {W : World} (h : laidMetH Tryd.prog Rows.codeChecksRow.laid W) : laidMet Tryd.prog Rows.codeChecksRow.laid W := by
  rw [MakeChecks.laidMetH_plain _ _ _ (by kernel_rfl)] at h
  exact h
theorem env18_of {W : World} (h : laidMetH Tryd.prog Rows.codeChecksRow.laid W) : ∃ Ad, Env W Ad := env18 (laid_plain18 h).tail.tail.tail
theorem ops18_of {W : World} (h : laidMetH Tryd.prog Rows.codeChecksRow.laid W) : OpsAt W := ops_of' (r := []) (show laidMet Tryd.prog _ W from (laid_plain18 h).tail.tail.tail.tail.tail.tail.tail.tail.tail.tail.tail.tail.tail.tail.tail.tail.tail.tail.tail.tail.tail)
end Go.Proofs.YtkhhiddemihnbaaDoor.Cw
