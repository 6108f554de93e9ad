/- A trail: a row of texts that is grown and used again. -/
import Derived.Test.YtagjmggiaffihabDoorKa
import Derived.Test.YtagjmggiaffihabDoorRows
import Derived.WalkKit
import Derived.Laws.OwnMore
import Derived.Deep.AppendSrc
namespace Go.Proofs.YtagjmggiaffihabDoor
open Go.RowKit
theorem hid {p : Prop} (h : p) : Hid p := h
def sv (s : ByteArray) : Value := .string s
theorem sv_one (l : List ByteArray) : ∀ u ∈ l.map sv, u.oneCell' = true := by
  intro u hu
  obtain ⟨c, _, rfl⟩ := List.mem_map.1 hu
  rfl
/-- A row of texts. -/
def isRow (o : Obj) : Prop := ∃ cur, o = .cells cur 9 (0, 0)
theorem isRow_cells (o : Obj) (h : isRow o) : o.isCells = true := by obtain ⟨_, rfl⟩ := h; rfl
/-- A row of texts or of errors. -/
def isKept (o : Obj) : Prop := ∃ cur, o = .cells cur 9 (0, 0) ∨ o = .cells cur 31 (0, 0)
/-- The trail that v is. -/
def Trail (B : Nat) (w : World) (v : Value) (ts : List ByteArray) : Prop := w.ownsRow B 9 1 v ts.length (ts.map sv)
/-- What was a trail, no longer than n, is one. -/
def Olds (B n : Nat) (w w' : World) : Prop := ∀ u ys, Trail B w u ys → ys.length ≤ n → Trail B w' u ys
theorem own_later {w w' : World} {B n : Nat} {e : TypeId} {v : Value} {xs : List Value} (h : w.ownsRow B e 1 v n xs) (hb : ∀ g cur, v.ownBlock = some g → w.heap[g]? = some (.cells cur e (0, 0)) → w'.heap[g]? = some (.cells cur e (0, 0))) : w'.ownsRow B e 1 v n xs := by
  refine ⟨h.1, ?_⟩
  rcases h.2 with h1 | ⟨g, cap, cur, h1, h2, h3, h4⟩
  · exact .inl h1
  · exact .inr ⟨g, cap, cur, h1, h2, hb g cur (by rw [h1]; rfl) h3, h4⟩
theorem Trail.kept {B N : Nat} {w w' : World} {v : Value} {ts : List ByteArray} (h : Trail B w v ts) (ht : Turn (fun o => ¬ isKept o) N w w') : Trail B w' v ts :=
  own_later h fun g cur _ hg => ht.block g _ hg (.inr fun q => q ⟨cur, .inl rfl⟩)
theorem Trail.grown {B : Nat} {w w' : World} {v : Value} {ts : List ByteArray} (h : Trail B w v ts) (hb : Below w.heap.size w w') : Trail B w' v ts :=
  own_later h fun g _ _ hg => (hb.block g (Array.getElem?_eq_some_iff.1 hg).1).trans hg
theorem Tryd.info9 : (Tryd.prog.info? 9).map (fun i => (i.zero, i.size, i.bytes)) = some (some (.string ⟨#[]⟩), 1, 16) := by kernel_rfl
theorem info_parts {x : Option TypeInfo} {z : Option Value} {s b : Nat} (h : x.map (fun i => (i.zero, i.size, i.bytes)) = some (z, s, b)) : ∃ i, x = some i ∧ i.zero = z ∧ i.size = s ∧ i.bytes = b := by
  cases x with
  | none => simp at h
  | some i => simp at h; exact ⟨i, rfl, h.1, h.2.1, h.2.2⟩
theorem add_at (g j : Nat) : (⟨g, 0, none⟩ : Addr).add j = ⟨g, j, none⟩ := by unfold Addr.add; split <;> simp_all
end Go.Proofs.YtagjmggiaffihabDoor
