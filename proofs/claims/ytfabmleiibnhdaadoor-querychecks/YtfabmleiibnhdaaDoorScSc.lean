/- For Check: names that are taken, errors at a way. -/
import Derived.Test.YtfabmleiibnhdaaDoorScSa
import Derived.Test.YtfabmleiibnhdaaDoorScSb
namespace Go.Proofs.YtfabmleiibnhdaaDoor.Sc
open Go.RowKit Go.Shelf Go.Maps
theorem keyed9 : Keyed Tryd.prog 9 := string_keyed Tryd.underlying9
def litS (s : ByteArray) : Lit := .string s.data.toList
/-- A set of names. -/
def SetN (acc : List ByteArray) : DataW Unit := Maps.setOf (.agg []) (acc.map litS)
theorem litS_key (acc : List ByteArray) : ∀ x ∈ acc.map litS, WideAt.IsKeyLit x := by
  intro x hx
  obtain ⟨s, -, rfl⟩ := List.mem_map.1 hx
  exact trivial
/-- Whether a name is among others. -/
def memB (acc : List ByteArray) (s : ByteArray) : Bool := acc.any fun x => x.data.toList == s.data.toList
theorem memB_iff (acc : List ByteArray) (s : ByteArray) : memB acc s = true ↔ s ∈ acc := by
  unfold memB
  rw [List.any_eq_true]
  constructor
  · rintro ⟨x, hx, h⟩
    have : x = s := ByteArray.ext (Array.toList_inj.1 (by simpa using h))
    exact this ▸ hx
  · intro h
    exact ⟨s, h, by simp⟩
theorem has_SetN (acc : List ByteArray) (s : ByteArray) : Maps.has (SetN acc) (litS s) = memB acc s := by
  unfold SetN memB
  rw [Maps.has_setOf _ _ _ (litS_key acc), List.any_map]
  rfl
theorem SetN_snoc (acc : List ByteArray) (s : ByteArray) : SetN (acc ++ [s]) = (SetN acc).put (litS s) (.agg []) := by
  unfold SetN
  rw [List.map_append]
  exact Maps.setOf_snoc _ _ _
def MapN (W : World) (mb n : Nat) (acc : List ByteArray) : Prop := W.ownsMap Tryd.prog 9 (unitElem (H := Unit)) mb n (SetN acc)
/-- What is wrong with a name, where others are taken. -/
def nErr (acc : List ByteArray) (s : ByteArray) : List Nat := if isNm s then (if memB acc s then [9] else []) else [10]
def seenB (acc : List ByteArray) (s : ByteArray) : List ByteArray := if isNm s && !memB acc s then acc ++ [s] else acc
/-- The error of numbers of which there is one at most. -/
def errV (Ad : Nat → Addr) : List Nat → Value
  | [] => .nilIface
  | k :: _ => .iface 121 (.pointer (some (Ad k)))
theorem grown_of_below {W W' : World} (h : Below W.heap.size W W') (row : Option Nat) : W.grownBy W' row := ⟨h.os, h.tape, h.output, h.size, fun k hk _ => h.block k hk⟩
theorem MapN.later {W W' : World} {mb n : Nat} {acc : List ByteArray} (h : MapN W mb n acc) (hb : Below W.heap.size W W') : MapN W' mb n acc := World.ownsMap.kept h (grown_of_below hb none) (by simp)
end Go.Proofs.YtfabmleiibnhdaaDoor.Sc
