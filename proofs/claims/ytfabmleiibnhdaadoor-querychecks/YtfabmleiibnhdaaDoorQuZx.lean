/- What the cards use: the door's own heap meets the rows' list. -/
import Derived.Test.YtfabmleiibnhdaaDoorKl
import Derived.Test.YtfabmleiibnhdaaDoorCards
import Derived.Test.YtfabmleiibnhdaaDoorTie
import Derived.ProofKit
import Derived.LaidMore
import Derived.OpenShut
import Derived.Deep.Grids
import Derived.SevenTiedAt
import Derived.ChangeMaps5
namespace Go.Proofs.YtfabmleiibnhdaaDoor
open Go.ChangeShapes Go.WideShapes Go.ChangeAt Go.RowKit
theorem door_met (os : Os) (args : Array Value) : laidMetH Tryd.prog Rows.queryPartsRow.laid ((World.doorLaid Tryd.prog 351 os).forCall (fun _ _ => 0) ⟨#[], args, []⟩).memory :=
  laidMetH_of_parts3 (fuel := 8) (laidMet_of_run' 8 (by kernel_rfl) (by kernel_rfl)) (by kernel_rfl) (by kernel_rfl)
theorem Tryd.own : ownKnob Tryd.prog.godebug = none := by kernel_rfl
theorem Tryd.laidOut : laidOutB Tryd.prog = true := by kernel_rfl
theorem env_of {W : World} (h : laidMetH Tryd.prog Rows.queryPartsRow.laid W) : ∃ Ad, Env W Ad := by
  rw [MakeChecks.laidMetH_plain _ _ _ (by kernel_rfl)] at h
  exact env18 h
end Go.Proofs.YtfabmleiibnhdaaDoor
