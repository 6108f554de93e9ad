/- Draws leave memory as it is. -/
import Derived.Test.YtfabmleiibnhdaaDoorAtAd
namespace Go.Proofs.YtfabmleiibnhdaaDoor.At
open Go.RowKit Go.Shelf Go.Maps
theorem drewN_below (W : World) (m : Nat) : Below W.heap.size W (W.drewN m) := by
  induction m generalizing W with
  | zero => exact Below.refl _ _
  | succ m ih => exact (ih W).drew
end Go.Proofs.YtfabmleiibnhdaaDoor.At
