/- A part of StoreExact. -/
import Derived.Test.YtnlcbheidiigaaaGreatDoorRsHz
namespace Go.Proofs.YtnlcbheidiigaaaGreatDoor
namespace Rs
open Go.ChangeShapes Go.WideShapes Go.ChangeAt Go.RowKit Go.Shelf
theorem door_met (os : Os) (args : Array Value) : laidMetH Tryz.prog Rows.storeExactRow.laid ((World.doorLaid Tryz.prog 366 os).forCall (fun _ _ => 0) ⟨#[], args, []⟩).memory :=
 laidMetH_of_parts3 (fuel := 8) (laidMet_of_run' 8 (by kernel_rfl) (by kernel_rfl)) (by kernel_rfl) (by kernel_rfl)
theorem env_of {W : World} (h : laidMetH Tryz.prog Rows.storeExactRow.laid W) : ∃ Ad, Env W Ad := by
 rw [MakeChecks.laidMetH_plain _ _ _ (by kernel_rfl)] at h
 first
  | exact env18 h
  | exact env18 h.tail
  | exact env18 h.tail.tail
  | exact env18 h.tail.tail.tail
end Rs
end Go.Proofs.YtnlcbheidiigaaaGreatDoor
