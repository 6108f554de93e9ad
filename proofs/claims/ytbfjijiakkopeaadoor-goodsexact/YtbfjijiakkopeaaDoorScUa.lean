/- Sets: bit, With, Without, Has, Within, Of. -/
import Derived.Test.YtbfjijiakkopeaaDoorScSe
namespace Go.Proofs.YtbfjijiakkopeaaDoor.Sc
open Go.RowKit Go.Shelf
/-- The set of one number. -/
def bitI (n : Int) : Int := if 0 ≤ n ∧ n < 32 then 2 ^ n.toNat % 4294967296 else 0
def orI (m n : Int) : Int := bits .or .u32 m (bitI n)
def ofM (ds : List Int) : Int := ds.foldl orI 0
theorem ofM_next {ds : List Int} {k : Nat} {x : Int} (h : ds[k]? = some x) : ofM (ds.take (k + 1)) = orI (ofM (ds.take k)) x := by
  unfold ofM
  rw [take_next h, List.foldl_append]; rfl
/-- The components of a kind, as a set. -/
def kindM (cs : List Cmp) (b : Bool) : Nat → Int
  | 0 => 0
  | k + 1 => match cs[k]? with | some c => if c.rb == b then orI (kindM cs b k) (k : Int) else kindM cs b k | none => kindM cs b k
theorem kindM_next {cs : List Cmp} {k : Nat} {c : Cmp} (b : Bool) (h : cs[k]? = some c) : kindM cs b (k + 1) = if c.rb == b then orI (kindM cs b k) (k : Int) else kindM cs b k := by simp only [kindM, h]
end Go.Proofs.YtbfjijiakkopeaaDoor.Sc
