/- ColumnSince, plainly: rows, and in which frame each was changed last. -/
import Derived.Test.YtpglanlpnapddaaDoorCq
import Derived.Test.YtpglanlpnapddaaDoorDa
namespace Go.Proofs.YtpglanlpnapddaaDoor
open Go.RowKit Go.Shelf Go.Maps
def z61 : Array Value := Array.replicate 61 (.int .i64 0)
theorem Tryd.info62 : (Tryd.prog.info? 62).map (fun i => (i.zero, i.size)) = some (some (.agg z61), 61) := by kernel_rfl
theorem zero62 (w : World) : (zeroValue 62).run Tryd.prog w = .ok (.agg z61) w := (zero_of_info Tryd.info62).1 w
theorem one61 : z61.all (·.oneCell') = true := by kernel_rfl
theorem size61 : z61.size = 61 := by simp [z61]
theorem store62 (w : World) : (storeCells ⟨w.heap.size, 0, none⟩ z61.toList).run Tryd.prog (w.alloc (.cells z61 62)) = .ok () (w.alloc (.cells z61 62)) :=
  run_storeCells_new w 62 z61 z61 (by rw [(zero_of_info Tryd.info62).2, size61]) rfl one61
/-- In which frame each row was changed last. -/
def Lasts (w : World) (b : Nat) (l : List Pt) : Prop := (∀ x : Nat, x < 61 → w.cell? ⟨b, x, none⟩ = some (.int .i64 (tickAt l (x : Int)))) ∧ ∀ x, w.frozen? ⟨b, x, none⟩ = false
theorem tick_nil (i : Int) : tickAt [] i = 0 := by
  have e : rowAt [] i = none := by unfold rowAt; split <;> simp
  unfold tickAt; rw [e]
theorem tick_snoc (l : List Pt) (p : Pt) (hp : p.t = 0) (i : Int) : tickAt (l ++ [p]) i = tickAt l i := by
  unfold tickAt
  rw [rowAt_snoc]
  by_cases e : i = (l.length : Int)
  · rw [if_pos e, e, rowAt_nat]
    simp [hp]
  · rw [if_neg e]
theorem tick_set (l : List Pt) (n : Nat) (p : Pt) (h : n < l.length) (i : Int) : tickAt (l.set n p) i = if i = (n : Int) then p.t else tickAt l i := by
  unfold tickAt
  rw [rowAt_set l n p h]
  by_cases e : i = (n : Int)
  · rw [if_pos e, if_pos e]
  · rw [if_neg e, if_neg e]
theorem lasts_none (w : World) : Lasts (w.alloc (.cells z61 62)) w.heap.size [] := by
  have h := heap_alloc_new w (.cells z61 62)
  refine ⟨fun x hx => ?_, fun x => blk_free h x⟩
  rw [cell_of_row _ _ x z61 62 (0, 0) h, tick_nil]
  simp [z61, hx]
theorem Lasts.put {w : World} {b : Nat} {l l' : List Pt} (h : Lasts w b l) (y : Nat) (v : Int) (hl : ∀ x : Nat, tickAt l' (x : Int) = if x = y then v else tickAt l (x : Int)) : Lasts (w.setCell ⟨b, y, none⟩ (.int .i64 v)) b l' := by
  refine ⟨fun x hx => ?_, fun x => ?_⟩
  · rw [hl x]
    by_cases e : x = y
    · subst e
      rw [World.cell?_setCell_same w _ _ (h.1 x hx), if_pos rfl]
    · rw [World.cell?_setCell_other w _ _ _ (fun h => e (Addr.mk.inj h).2.1.symm), h.1 x hx, if_neg e]
  · rw [World.frozen?_setCell]; exact h.2 x
theorem Lasts.kept {w w' : World} {b : Nat} {l : List Pt} (h : Lasts w b l) (he : w'.heap[b]? = w.heap[b]?) : Lasts w' b l := by
  refine ⟨fun x hx => (World.cell?_of_block (a := ⟨b, x, none⟩) he).trans (h.1 x hx), fun x => ?_⟩
  rw [← h.2 x]
  unfold World.frozen?
  rw [show (⟨b, x, none⟩ : Addr).block = b from rfl, he]
theorem Lasts.lt {w : World} {b : Nat} {l : List Pt} (h : Lasts w b l) : b < w.heap.size := World.block_lt_of_cell? w _ (h.1 0 (by decide))
/-- A column, and in which frame each row was changed last. -/
structure Snc (B : Nat) (w : World) (rb lb : Nat) (l m : List Pt) (S : Nat → Prop) (wr : World) : Prop where
  col : Col B wr rb ⟨0, 1, l⟩ S
  lst : Lasts wr lb m
  nl : ¬ S lb
  lo : w.heap.size ≤ lb
  bel : Below w.heap.size w wr
  base : w.heap.size ≤ B
section
variable {B : Nat} {w wr w' : World} {rb lb : Nat} {l m : List Pt} {S : Nat → Prop}
theorem Snc.later (h : Snc B w rb lb l m S wr) (hb : Below wr.heap.size wr w') : Snc B w rb lb l m S w' :=
  ⟨h.col.later hb, h.lst.kept (hb.block lb h.lst.lt), h.nl, h.lo, h.bel.trans (hb.mono h.bel.size), h.base⟩
theorem Snc.turn {l' : List Pt} {S' : Nat → Prop} (h : Snc B w rb lb l m S wr) (hs : St S wr w') (h' : Col B w' rb ⟨0, 1, l'⟩ S') (hS : ∀ x, S' x → S x ∨ wr.heap.size ≤ x) : Snc B w rb lb l' m S' w' :=
  ⟨h', h.lst.kept (hs.block lb h.lst.lt h.nl), fun q => (hS lb q).elim h.nl (fun q => by have := h.lst.lt; omega), h.lo, h.bel.trans ((h.col.below hs).mono h.base), h.base⟩
theorem Snc.put {m' : List Pt} (h : Snc B w rb lb l m S wr) (y : Nat) (v : Int) (hl : ∀ x : Nat, tickAt m' (x : Int) = if x = y then v else tickAt m (x : Int)) : Snc B w rb lb l m' S (wr.setCell ⟨lb, y, none⟩ (.int .i64 v)) := by
  have hs : St (fun k => k = lb) wr (wr.setCell ⟨lb, y, none⟩ (.int .i64 v)) := St.setCell _ rfl
  exact ⟨h.col.kept hs fun k hk e => h.nl (e ▸ hk), h.lst.put y v hl, h.nl, h.lo, h.bel.trans (hs.below (fun k hk => by have := h.lo; omega) h.bel.size), h.base⟩
theorem Snc.same {m' : List Pt} (h : Snc B w rb lb l m S wr) (hm : ∀ x : Nat, tickAt m' (x : Int) = tickAt m (x : Int)) : Snc B w rb lb l m' S wr :=
  ⟨h.col, ⟨fun x hx => by rw [hm x]; exact h.lst.1 x hx, h.lst.2⟩, h.nl, h.lo, h.bel, h.base⟩
end
theorem since_pre (l : List Pt) (f : Int) (i n : Nat) (h : i ≤ n) : since l f i <+: since l f n := by
  induction n with
  | zero => obtain rfl : i = 0 := by omega
            exact List.prefix_refl _
  | succ n ih =>
    by_cases e : i = n + 1
    · subst e; exact List.prefix_refl _
    · refine (ih (by omega)).trans ?_
      show _ <+: if f ≤ tickAt l (n : Int) then since l f n ++ [n] else since l f n
      split
      · exact List.prefix_append _ _
      · exact List.prefix_refl _
theorem since_at (l : List Pt) (f : Int) (i n : Nat) (h : i < n) (ht : f ≤ tickAt l (i : Int)) : (since l f n)[(since l f i).length]? = some i := by
  have hp := since_pre l f (i + 1) n h
  have e : since l f (i + 1) = since l f i ++ [i] := if_pos ht
  rw [e] at hp
  obtain ⟨t, ht⟩ := hp
  rw [← ht, List.append_assoc, List.getElem?_append_right (Nat.le_refl _)]
  simp
theorem since_hit (l : List Pt) (f : Int) (i : Nat) (ht : f ≤ tickAt l (i : Int)) : (since l f (i + 1)).length = (since l f i).length + 1 := by
  have e : since l f (i + 1) = since l f i ++ [i] := if_pos ht
  rw [e]; simp
theorem since_miss (l : List Pt) (f : Int) (i : Nat) (ht : ¬ f ≤ tickAt l (i : Int)) : since l f (i + 1) = since l f i := if_neg ht
end Go.Proofs.YtpglanlpnapddaaDoor
