/- What every proof of this seat uses: the door's own heap meets the rows' list; the reach of a row of items. -/
import Derived.Test.YthngdaeiopgigaaDoorPa
import Derived.Test.YthngdaeiopgigaaDoorCards
import Derived.Test.YthngdaeiopgigaaDoorTie
import Derived.SevenTiedAt
namespace Go.Proofs.YthngdaeiopgigaaDoor
open Go.ChangeShapes Go.WideShapes Go.ChangeAt Go.RowKit
theorem door_met (os : Os) (args : Array Value) : laidMetH Tryd.prog Rows.strandBackRow.laid ((World.doorLaid Tryd.prog 351 os).forCall (fun _ _ => 0) ⟨#[], args, []⟩).memory :=
  laidMetH_of_parts3 (fuel := 8) (laidMet_of_run' 8 (by kernel_rfl) (by kernel_rfl)) (by kernel_rfl) (by kernel_rfl)
theorem Tryd.laidOut : laidOutB Tryd.prog = true := by kernel_rfl
theorem Tryd.bytes30 : Tryd.prog.bytesOf 30 = 56 := by kernel_rfl
end Go.Proofs.YthngdaeiopgigaaDoor
