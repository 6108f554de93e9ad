/- A part written into a row of parts. -/
import Derived.Test.YtpglanlpnapddaaDoorEd
namespace Go.Proofs.YtpglanlpnapddaaDoor
open Go.RowKit Go.Shelf Go.Maps
/-- A part stored at an offset. -/
def putAt (W : World) (b o : Nat) (cm : Int) (p : Pt) : World := (((((W.setCell ⟨b, o, none⟩ (.int .i64 cm)).setCell ⟨b, o + 1, none⟩ (.int .i64 p.a)).setCell ⟨b, o + 2, none⟩ (.int .i64 p.b)).setCell ⟨b, o + 3, none⟩ (.int .i64 p.c)).setCell ⟨b, o + 4, none⟩ (.int .i64 p.d)).setCell ⟨b, o + 5, none⟩ (.int .i64 p.t)
theorem putAt_st (W : World) (b o : Nat) (cm : Int) (p : Pt) : St (fun k => k = b) W (putAt W b o cm p) := by
  unfold putAt
  exact (((((St.setCell (S := fun k => k = b) (p := ⟨b, o, none⟩) _ rfl).trans (St.setCell (S := fun k => k = b) (p := ⟨b, o + 1, none⟩) _ rfl) fun _ _ h => h).trans (St.setCell (S := fun k => k = b) (p := ⟨b, o + 2, none⟩) _ rfl) fun _ _ h => h).trans (St.setCell (S := fun k => k = b) (p := ⟨b, o + 3, none⟩) _ rfl) fun _ _ h => h).trans (St.setCell (S := fun k => k = b) (p := ⟨b, o + 4, none⟩) _ rfl) fun _ _ h => h).trans (St.setCell (S := fun k => k = b) (p := ⟨b, o + 5, none⟩) _ rfl) fun _ _ h => h
theorem partCells_set (cm : Int) (l : List Pt) (n : Nat) (hn : n < l.length) (q : Pt) :
    ((((((partCells cm l).set (n * 6) (.int .i64 cm)).set (n * 6 + 1) (.int .i64 q.a)).set (n * 6 + 2) (.int .i64 q.b)).set (n * 6 + 3) (.int .i64 q.c)).set (n * 6 + 4) (.int .i64 q.d)).set (n * 6 + 5) (.int .i64 q.t) = partCells cm (l.set n q) := by
  apply List.ext_getElem?
  intro i
  have hlen := partCells_len cm l
  by_cases hi : i < l.length * 6
  · obtain ⟨j, r, hr, rfl⟩ : ∃ j r, r < 6 ∧ i = j * 6 + r := ⟨i / 6, i % 6, Nat.mod_lt _ (by decide), by omega⟩
    have hj : j < l.length := by omega
    by_cases e : j = n
    · subst e
      have h1 := partCells_at cm (l.set j q) j q (List.getElem?_set_self hj) r hr
      rw [h1]
      match r, hr with
      | 0, _ => simp [List.getElem?_set, hlen, Pt.arr]; omega
      | 1, _ => simp [List.getElem?_set, hlen, Pt.arr]; omega
      | 2, _ => simp [List.getElem?_set, hlen, Pt.arr]; omega
      | 3, _ => simp [List.getElem?_set, hlen, Pt.arr]; omega
      | 4, _ => simp [List.getElem?_set, hlen, Pt.arr]; omega
      | 5, _ => simp [List.getElem?_set, hlen, Pt.arr]; omega
    · obtain ⟨x, hx⟩ := at_lt l j hj
      have h1 := partCells_at cm (l.set n q) j x (by rw [List.getElem?_set_ne (fun h => e h.symm)]; exact hx) r hr
      have h2 := partCells_at cm l j x hx r hr
      rw [h1, ← h2]
      rw [List.getElem?_set_ne (by omega), List.getElem?_set_ne (by omega), List.getElem?_set_ne (by omega), List.getElem?_set_ne (by omega), List.getElem?_set_ne (by omega), List.getElem?_set_ne (by omega)]
  · rw [List.getElem?_eq_none (by simp [hlen]; omega), List.getElem?_eq_none (by rw [partCells_len]; simp; omega)]
theorem Parts.putAt {B : Nat} {W : World} {g c : Nat} {cm : Int} {l : List Pt} (h : Parts B W (.slice (Option.some ⟨g, 0, none⟩) l.length c) cm l) (n : Nat) (hn : n < l.length) (q : Pt) : Parts B (putAt W g (n * 6) cm q) (.slice (Option.some ⟨g, 0, none⟩) l.length c) cm (l.set n q) := by
  have h1 := (World.ownsRow.stored h (n * 6) (.int .i64 cm)).1
  have h2 := (World.ownsRow.stored h1 (n * 6 + 1) (.int .i64 q.a)).1
  have h3 := (World.ownsRow.stored h2 (n * 6 + 2) (.int .i64 q.b)).1
  have h4 := (World.ownsRow.stored h3 (n * 6 + 3) (.int .i64 q.c)).1
  have h5 := (World.ownsRow.stored h4 (n * 6 + 4) (.int .i64 q.d)).1
  have h6 := (World.ownsRow.stored h5 (n * 6 + 5) (.int .i64 q.t)).1
  rw [partCells_set cm l n hn q] at h6
  show World.ownsRow _ _ _ _ _ (l.set n q).length _
  rw [List.length_set]
  exact h6
theorem partCells_take (cm : Int) (l : List Pt) (m : Nat) (hm : m ≤ l.length) : (partCells cm l).take (m * 6) = partCells cm (l.take m) := by
  induction l generalizing m with
  | nil => simp at hm; subst hm; simp [partCells]
  | cons p l ih =>
    cases m with
    | zero => simp [partCells]
    | succ m =>
      have e : ∀ k, partCells cm (p :: k) = (p.arr cm).toList ++ partCells cm k := fun k => by simp [partCells]
      rw [List.take_succ_cons, e, e, show (m + 1) * 6 = (p.arr cm).toList.length + m * 6 by simp [Pt.arr]; omega, List.take_length_add_append, ih m (by simpa using hm)]
theorem Parts.shrink {B : Nat} {W : World} {g c : Nat} {cm : Int} {l : List Pt} (h : Parts B W (.slice (Option.some ⟨g, 0, none⟩) l.length c) cm l) (m : Nat) (hm : m ≤ l.length) : Parts B W (.slice (Option.some ⟨g, 0, none⟩) m c) cm (l.take m) := by
  have hlen : (l.take m).length = m := by simp; omega
  refine ⟨by rw [partCells_len], ?_⟩
  rcases h.2 with ⟨h1, _⟩ | ⟨g', cap, cur, h1, h2, h3, h4, h5, h6, h7⟩
  · cases h1
  · simp only [Value.slice.injEq, Option.some.injEq, Addr.mk.injEq, true_and, and_true] at h1
    obtain ⟨rfl, rfl⟩ := h1
    refine .inr ⟨g, c, cur, by rw [hlen], h2, h3, by rw [hlen]; omega, h5, h6, ?_⟩
    have := congrArg (List.take (m * 6)) h7
    rw [List.take_take, Nat.min_eq_left (by omega), partCells_take cm l m hm] at this
    rw [hlen]; exact this
/-- That the cells of a part of a row may be written. -/
theorem Parts.free {B : Nat} {W : World} {g c : Nat} {cm : Int} {l : List Pt} (h : Parts B W (.slice (Option.some ⟨g, 0, none⟩) l.length c) cm l) (j : Nat) : W.frozen? ⟨g, j, none⟩ = false := World.ownsRow.frozenAt h j
end Go.Proofs.YtpglanlpnapddaaDoor
