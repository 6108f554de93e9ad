/- Find and Resource. -/
import Derived.Test.YtbfjijiakkopeaaDoorScUb
import Derived.Test.YtbfjijiakkopeaaDoorScSf
namespace Go.Proofs.YtbfjijiakkopeaaDoor.Sc
open Go.RowKit Go.Shelf
def eqS (a b : ByteArray) : Bool := a.toList == b.toList
theorem eqS_iff (a b : ByteArray) : eqS a b = true ↔ a = b := by
  unfold eqS
  constructor
  · intro h
    have h := eq_of_beq h
    rw [Lib.toList_data, Lib.toList_data] at h
    exact ByteArray.ext (Array.toList_inj.1 h)
  · rintro rfl; exact beq_self_eq_true _
/-- The first index of a name, or -1. -/
def firstI (s : ByteArray) : List ByteArray → Nat → Int
  | [], _ => -1
  | x :: l, k => if eqS x s then (k : Int) else firstI s l (k + 1)
theorem firstI_next (s : ByteArray) (l : List ByteArray) (k : Nat) (x : ByteArray) (h : l[k]? = some x) :
    firstI s (l.drop k) k = if eqS x s then (k : Int) else firstI s (l.drop (k + 1)) (k + 1) := by
  rw [List.drop_eq_getElem?_toList_append, h]
  rfl
theorem firstI_end (s : ByteArray) (l : List ByteArray) (k : Nat) (h : l.length ≤ k) : firstI s (l.drop k) k = -1 := by
  rw [List.drop_of_length_le h]; rfl
/-- What found makes of an index. -/
def foundV (i : Int) : Value := if i < 0 then .tuple #[.int .i64 0, .bool false] else .tuple #[.int .i64 i, .bool true]
end Go.Proofs.YtbfjijiakkopeaaDoor.Sc
