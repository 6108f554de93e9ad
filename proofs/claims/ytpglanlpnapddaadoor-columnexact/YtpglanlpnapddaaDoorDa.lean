/- ColumnKeeps, plainly: rows that bear numbers, and which of them are left. -/
import Derived.Test.YtpglanlpnapddaaDoorCk
import Derived.Deep.WholeRow
namespace Go.Proofs.YtpglanlpnapddaaDoor
open Go.RowKit Go.Shelf Go.Maps
def pK (i : Nat) : Pt := ⟨(i : Int), 0, 0, 0, 0⟩
/-- The numbers behind Take. -/
def took (l : List Nat) (n last : Nat) : List Nat := (l.set n last).dropLast
theorem took_perm {l : List Nat} {n x last : Nat} (hn : l[n]? = some x) (hl : l[l.length - 1]? = some last) : l.Perm (x :: took l n last) := by
  have hnl := (List.getElem?_eq_some_iff.1 hn).1
  have hne : l ≠ [] := fun e => by rw [e] at hnl; simp at hnl
  obtain ⟨m, hm⟩ : ∃ m, l = m ++ [last] := by
    refine ⟨l.dropLast, ?_⟩
    have e := List.dropLast_concat_getLast hne
    have e2 : l.getLast hne = last := by
      rw [List.getLast_eq_getElem]
      have := (List.getElem?_eq_some_iff.1 hl).2
      exact this
    rw [e2] at e
    exact e.symm
  subst hm
  unfold took
  by_cases h : n < m.length
  · rw [List.set_append_left _ _ h, List.dropLast_concat]
    rw [List.getElem?_append_left h] at hn
    obtain ⟨h1, rfl⟩ := List.getElem?_eq_some_iff.1 hn
    rw [List.set_eq_take_append_cons_drop, if_pos h]
    have e : m = m.take n ++ m[n] :: m.drop (n + 1) := by rw [← List.drop_eq_getElem_cons h, List.take_append_drop]
    rw [List.perm_iff_count]
    intro a
    have ec := congrArg (List.count a) e
    simp only [List.count_append, List.count_cons, List.count_nil] at ec ⊢
    omega
  · have h2 : n = m.length := by simp at hnl; omega
    subst h2
    simp at hn
    subst hn
    rw [List.set_append_right _ _ (Nat.le_refl _)]
    simp
theorem took_nodup {l : List Nat} {n x last : Nat} (h : l.Nodup) (hn : l[n]? = some x) (hl : l[l.length - 1]? = some last) : (took l n last).Nodup ∧ ∀ y, y ∈ took l n last ↔ (y ∈ l ∧ y ≠ x) := by
  have hp := took_perm hn hl
  have h2 := List.nodup_cons.1 (hp.nodup_iff.1 h)
  refine ⟨h2.2, fun y => ?_⟩
  rw [hp.mem_iff, List.mem_cons]
  constructor
  · intro hy; exact ⟨.inr hy, fun e => h2.1 (e ▸ hy)⟩
  · rintro ⟨hy | hy, hne⟩
    · exact absurd hy hne
    · exact hy
theorem took_rows (s : CS) (l : List Nat) (hs : s.rows = l.map pK) (n last : Nat) : s.taken n (pK last) = ⟨s.comp, s.w, (took l n last).map pK⟩ := by
  unfold CS.taken took
  rw [hs, ← List.map_set, List.map_dropLast]
/-- Which ones are left. -/
def z101 : Array Value := Array.replicate 101 (.bool false)
theorem Tryd.info59 : (Tryd.prog.info? 59).map (fun i => (i.zero, i.size)) = some (some (.agg z101), 101) := by kernel_rfl
theorem zero59 (w : World) : (zeroValue 59).run Tryd.prog w = .ok (.agg z101) w := (zero_of_info Tryd.info59).1 w
theorem one101 : z101.all (·.oneCell') = true := by kernel_rfl
theorem size101 : z101.size = 101 := by simp [z101]
theorem store59 (w : World) : (storeCells ⟨w.heap.size, 0, none⟩ z101.toList).run Tryd.prog (w.alloc (.cells z101 59)) = .ok () (w.alloc (.cells z101 59)) :=
  run_storeCells_new w 59 z101 z101 (by rw [(zero_of_info Tryd.info59).2, size101]) rfl one101
def Left (w : World) (b : Nat) (l : List Nat) : Prop := (∀ x, x < 101 → w.cell? ⟨b, x, none⟩ = some (.bool (decide (x ∈ l)))) ∧ ∀ x, w.frozen? ⟨b, x, none⟩ = false
theorem left_none (w : World) : Left (w.alloc (.cells z101 59)) w.heap.size [] := by
  have h := heap_alloc_new w (.cells z101 59)
  refine ⟨fun x hx => ?_, fun x => blk_free h x⟩
  rw [cell_of_row _ _ x z101 59 (0, 0) h]
  simp [z101, hx]
theorem Left.put {w : World} {b : Nat} {l l' : List Nat} (h : Left w b l) (y : Nat) (v : Bool) (hl : ∀ x, decide (x ∈ l') = if x = y then v else decide (x ∈ l)) : Left (w.setCell ⟨b, y, none⟩ (.bool v)) b l' := by
  refine ⟨fun x hx => ?_, fun x => ?_⟩
  · rw [hl x]
    by_cases e : x = y
    · subst e
      rw [World.cell?_setCell_same w _ _ (h.1 x hx), if_pos rfl]
    · rw [World.cell?_setCell_other w _ _ _ (fun h => e (Addr.mk.inj h).2.1.symm), h.1 x hx, if_neg e]
  · rw [World.frozen?_setCell]; exact h.2 x
theorem Left.kept {w w' : World} {b : Nat} {l : List Nat} (h : Left w b l) (he : w'.heap[b]? = w.heap[b]?) : Left w' b l := by
  refine ⟨fun x hx => (World.cell?_of_block (a := ⟨b, x, none⟩) he).trans (h.1 x hx), fun x => ?_⟩
  rw [← h.2 x]
  unfold World.frozen?
  rw [show (⟨b, x, none⟩ : Addr).block = b from rfl, he]
theorem Left.lt {w : World} {b : Nat} {l : List Nat} (h : Left w b l) : b < w.heap.size := World.block_lt_of_cell? w _ (h.1 0 (by decide))
/-- A column of numbers, and those that are left. -/
structure Kep (B : Nat) (w : World) (rb lb : Nat) (l m : List Nat) (S : Nat → Prop) (wr : World) : Prop where
  col : Col B wr rb ⟨5, 1, l.map pK⟩ S
  left : Left wr lb m
  nl : ¬ S lb
  lo : w.heap.size ≤ lb
  bel : Below w.heap.size w wr
  base : w.heap.size ≤ B
section
variable {B : Nat} {w wr w' : World} {rb lb : Nat} {l m : List Nat} {S : Nat → Prop}
theorem Kep.later (h : Kep B w rb lb l m S wr) (hb : Below wr.heap.size wr w') : Kep B w rb lb l m S w' :=
  ⟨h.col.later hb, h.left.kept (hb.block lb h.left.lt), h.nl, h.lo, h.bel.trans (hb.mono h.bel.size), h.base⟩
theorem Kep.turn {l' : List Nat} {S' : Nat → Prop} (h : Kep B w rb lb l m S wr) (hs : St S wr w') (h' : Col B w' rb ⟨5, 1, l'.map pK⟩ S') (hS : ∀ x, S' x → S x ∨ wr.heap.size ≤ x) : Kep B w rb lb l' m S' w' :=
  ⟨h', h.left.kept (hs.block lb h.left.lt h.nl), fun q => (hS lb q).elim h.nl (fun q => by have := h.left.lt; omega), h.lo, h.bel.trans ((h.col.below hs).mono h.base), h.base⟩
theorem Kep.put {m' : List Nat} (h : Kep B w rb lb l m S wr) (y : Nat) (v : Bool) (hl : ∀ x, decide (x ∈ m') = if x = y then v else decide (x ∈ m)) : Kep B w rb lb l m' S (wr.setCell ⟨lb, y, none⟩ (.bool v)) := by
  have hs : St (fun k => k = lb) wr (wr.setCell ⟨lb, y, none⟩ (.bool v)) := St.setCell _ rfl
  exact ⟨h.col.kept hs fun k hk e => h.nl (e ▸ hk), h.left.put y v hl, h.nl, h.lo, h.bel.trans (hs.below (fun k hk => by have := h.lo; omega) h.bel.size), h.base⟩
end
/-- A row of numbers that came in. -/
def NRow (W : World) (v : Value) (ts : List Int) : Prop := ∃ a c, v = .slice a ts.length c ∧ (ts = [] ∨ ∃ b o, a = some ⟨b, o, none⟩ ∧ ∀ (j : Nat) x, ts[j]? = some x → W.cell? ⟨b, o + j, none⟩ = some (.int .i64 x))
theorem NRow.later {W W' : World} {v : Value} {ts : List Int} (h : NRow W v ts) (hb : Below W.heap.size W W') : NRow W' v ts := by
  obtain ⟨a, c, h1, h3⟩ := h
  refine ⟨a, c, h1, ?_⟩
  rcases h3 with h3 | ⟨b, o, h3, h4⟩
  · exact .inl h3
  · exact .inr ⟨b, o, h3, fun j x hx => seen hb (Nat.le_refl _) (h4 j x hx)⟩
theorem u64_nat (m : Int) : ∃ q : Nat, IntKind.u64.wrap m = (q : Int) := by
  have h : 0 ≤ IntKind.u64.wrap m := by
    show 0 ≤ m % _
    exact Int.emod_nonneg _ (by decide)
  exact Int.eq_ofNat_of_zero_le h
theorem rem_at (m : Int) (n : Nat) (h0 : 0 < n) : ∃ (u : Int) (k : Nat), k < n ∧ IntKind.u64.wrap m = u ∧ u.tmod (n : Int) = (k : Int) := by
  obtain ⟨q, hq⟩ := u64_nat m
  exact ⟨_, q % n, Nat.mod_lt _ h0, hq, by rw [← Int.ofNat_tmod]⟩
theorem uwrap_mid {n : Int} (h0 : 0 ≤ n) (h1 : n ≤ 1000000) : IntKind.u64.wrap n = n := by
  show n % _ = n
  exact Int.emod_eq_of_lt h0 (by simp [IntKind.bits]; omega)
end Go.Proofs.YtpglanlpnapddaaDoor
