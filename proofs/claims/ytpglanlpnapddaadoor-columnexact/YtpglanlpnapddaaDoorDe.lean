/- ColumnUndoes: rows of parts in memory, read and kept. -/
import Derived.Test.YtpglanlpnapddaaDoorCq
import Derived.Test.YtpglanlpnapddaaDoorDa
import Derived.ProofKit
import Derived.OpenShut
import Derived.Deep.Grids
namespace Go.Proofs.YtpglanlpnapddaaDoor
open Go.RowKit Go.Shelf Go.Maps
/-- The cells of parts, one behind the other. -/
def partCells (cm : Int) (l : List Pt) : List Value := l.flatMap fun p => (p.arr cm).toList
theorem partCells_snoc (cm : Int) (l : List Pt) (p : Pt) : partCells cm (l ++ [p]) = partCells cm l ++ (p.arr cm).toList := by simp [partCells]
theorem partCells_at (cm : Int) : ∀ (l : List Pt) (j : Nat) (p : Pt), l[j]? = some p → ∀ i, i < 6 → (partCells cm l)[j * 6 + i]? = (p.arr cm)[i]? := by
  intro l
  induction l with
  | nil => intro j p h; simp at h
  | cons x l ih =>
    intro j p h i hi
    have e : partCells cm (x :: l) = (x.arr cm).toList ++ partCells cm l := by simp [partCells]
    rw [e]
    cases j with
    | zero =>
      simp at h
      subst h
      rw [List.getElem?_append_left (by simp [Pt.arr]; omega)]
      simp
    | succ j =>
      have h2 := ih j p (by simpa using h) i hi
      rw [List.getElem?_append_right (by simp [Pt.arr]; omega), ← h2]
      congr 1
      simp [Pt.arr]
      omega
theorem infoPart : (Tryd.prog.info? 34).map (fun i => (i.zero, i.size, i.bytes)) = some (some (.agg #[.int .i64 0, .int .i64 0, .int .i64 0, .int .i64 0, .int .i64 0, .int .i64 0]), 6, 48) := by kernel_rfl
/-- A row of parts. -/
def Parts (B : Nat) (W : World) (v : Value) (cm : Int) (l : List Pt) : Prop := W.ownsRow B 34 6 v l.length (partCells cm l)
theorem Parts.slice {B : Nat} {W : World} {v : Value} {cm : Int} {l : List Pt} (h : Parts B W v cm l) : ∃ a c, v = .slice a l.length c := own_slice h
theorem Parts.kept {B : Nat} {W W' : World} {v : Value} {cm : Int} {l : List Pt} {T : Nat → Prop} (h : Parts B W v cm l) (hs : St T W W') (hn : ∀ x, v.ownBlock = some x → ¬ T x) : Parts B W' v cm l := by
  refine ⟨h.1, h.2.elim .inl fun ⟨g, cap, cur, h1, h2, h3, h4⟩ => .inr ⟨g, cap, cur, h1, h2, ?_, h4⟩⟩
  exact hs.at h3 (hn g (by rw [h1]; rfl))
theorem Parts.later {B : Nat} {W W' : World} {v : Value} {cm : Int} {l : List Pt} (h : Parts B W v cm l) (hb : Below W.heap.size W W') : Parts B W' v cm l := h.kept (T := fun _ => False) (St.of_below hb) fun _ _ q => q
theorem Parts.blk {B : Nat} {W : World} {v : Value} {cm : Int} {l : List Pt} (h : Parts B W v cm l) {x : Nat} (hx : v.ownBlock = some x) : ∃ cur, W.heap[x]? = some (.cells cur 34 (0, 0)) := by
  rcases h.2 with ⟨h1, _⟩ | ⟨g, cap, cur, h1, h2, h3, h4⟩
  · rw [h1] at hx; simp [Value.ownBlock] at hx
  · rw [h1] at hx
    obtain rfl : g = x := by simpa [Value.ownBlock] using hx
    exact ⟨cur, h3⟩
theorem Parts.some {B : Nat} {W : World} {a : Option Addr} {cap : Nat} {cm : Int} {l : List Pt} (h : Parts B W (.slice a l.length cap) cm l) (h0 : 0 < l.length) : ∃ g, a = Option.some ⟨g, 0, none⟩ := by
  obtain ⟨g, cap', e, h1, h2⟩ := World.ownsRow.form h h0
  simp only [Value.slice.injEq, true_and] at e
  exact ⟨g, e.1⟩
/-- The six cells of a part of a row. -/
structure Six (W : World) (b o : Nat) (cm : Int) (p : Pt) : Prop where
  c0 : W.cell? ⟨b, o, none⟩ = some (.int .i64 cm)
  c1 : W.cell? ⟨b, o + 1, none⟩ = some (.int .i64 p.a)
  c2 : W.cell? ⟨b, o + 2, none⟩ = some (.int .i64 p.b)
  c3 : W.cell? ⟨b, o + 3, none⟩ = some (.int .i64 p.c)
  c4 : W.cell? ⟨b, o + 4, none⟩ = some (.int .i64 p.d)
  c5 : W.cell? ⟨b, o + 5, none⟩ = some (.int .i64 p.t)
theorem Parts.cell {B : Nat} {W : World} {g cap : Nat} {cm : Int} {l : List Pt} (h : Parts B W (.slice (Option.some ⟨g, 0, none⟩) l.length cap) cm l) {j : Nat} {p : Pt} (hj : l[j]? = Option.some p) : Six W g (j * 6) cm p := by
  have hlt := (List.getElem?_eq_some_iff.1 hj).1
  have A := partCells_at cm l j p hj
  have C : ∀ i, i < 6 → W.cell? ⟨g, j * 6 + i, none⟩ = (p.arr cm)[i]? := fun i hi => (World.ownsRow.cellAt h (j * 6 + i) (by omega)).trans (A i hi)
  exact ⟨C 0 (by decide), C 1 (by decide), C 2 (by decide), C 3 (by decide), C 4 (by decide), C 5 (by decide)⟩
/-- append of one part. -/
theorem wpList_part {ops : Array Oper} {rest : List Oper} {o : Oper} {a : Act} {Q : Exit → Act → World → Prop} (hgd : o.guard = none) (s x : Operand)
    (ho : o.op = .call { callee := .builtin .append, args := #[s, x], argTypes := #[51, 51] }) {B : Nat} {wc : World} {v : Value} {cm : Int} {l : List Pt} {p : Pt} (hown : Parts B wc v cm l) (hl : l.length ≤ 1000) (hB : B ≤ wc.heap.size)
    (hs : a.eval s = v) (hx : a.eval x = .slice (some ⟨wc.heap.size, 0, none⟩) 1 1)
    (h : ∀ v' w2, Hid (Parts B w2 v' cm (l ++ [p])) → Hid (St (fun x => v.ownBlock = some x) wc w2) → wpList Tryd.prog ops Q rest (a.put o.dst v') w2) :
    wpList Tryd.prog ops Q (o :: rest) a (wc.alloc (.cells #[.int .i64 cm, .int .i64 p.a, .int .i64 p.b, .int .i64 p.c, .int .i64 p.d, .int .i64 p.t] 34)) := by
  obtain ⟨i0, hi, hz0, hz1, hz2⟩ := info_parts infoPart
  have hb := bAl wc (.cells (p.arr cm) 34)
  have ho2 : (wc.alloc (.cells (p.arr cm) 34)).ownsRow B 34 6 v l.length (partCells cm l) := World.ownsRow.alloc hown _
  have hh := heap_alloc_new wc (.cells (p.arr cm) 34)
  refine wpList_append_lies _ hgd s x 51 ho B 34 i0 (.agg #[.int .i64 0, .int .i64 0, .int .i64 0, .int .i64 0, .int .i64 0, .int .i64 0]) 6 48 Tryd.underlying51 hi hz0 hz1 hz2 rfl (by decide) v l.length (partCells cm l) hs ho2 ⟨wc.heap.size, 0, none⟩ 1 1 (p.arr cm).toList hx rfl (fun j u hu => by
    rw [add_at]
    exact cell_blk hh (by simpa using hu)) (by intro u hu; simp [Pt.arr] at hu; rcases hu with rfl | rfl | rfl | rfl | rfl | rfl <;> rfl) (by decide) (by unfold maxLen; omega) (by omega) (by simp; omega) (wc.heap.size + 1) (by simp) ?_
  intro g' cap w2 ow hg hat hlt
  refine h _ w2 ?_ ((St.of_below hb).trans (St.of_grown (S := fun x => v.ownBlock = some x) hg fun k e => e) fun _ _ q => q)
  show World.ownsRow _ _ _ _ _ _ _
  rw [partCells_snoc, List.length_append]
  exact ow
/-- No block of a column holds parts. -/
theorem Col.noPart {B : Nat} {W : World} {rb : Nat} {s : CS} {S : Nat → Prop} (h : Col B W rb s S) {k : Nat} {cur : Array Value} (hk : W.heap[k]? = some (.cells cur 34 (0, 0))) : ¬ S k := by
  obtain ⟨mb, sv, h1, h2⟩ := h
  intro hs
  rcases (h2 k).1 hs with rfl | rfl | hx
  · rw [h1.box] at hk; simp at hk
  · obtain ⟨D, ⟨es, cl, hb, _⟩, _⟩ := h1.map
    rw [hb] at hk; simp at hk
  · rcases h1.row.2 with ⟨e, _⟩ | ⟨g, cap, cu, e, _, h3, _⟩
    · rw [e] at hx; simp [Value.ownBlock] at hx
    · rw [e] at hx
      obtain rfl : g = k := by simpa [Value.ownBlock] using hx
      rw [h3] at hk; simp at hk
/-- A column, and the parts that are kept. -/
structure Und (B : Nat) (w : World) (rb : Nat) (kv : Value) (l m : List Pt) (S : Nat → Prop) (wr : World) : Prop where
  col : Col B wr rb ⟨7, 3, l⟩ S
  kept : Parts w.heap.size wr kv 7 m
  bel : Below w.heap.size w wr
  base : w.heap.size ≤ B
section
variable {B : Nat} {w wr w' : World} {rb : Nat} {kv : Value} {l m : List Pt} {S : Nat → Prop}
theorem Und.later (h : Und B w rb kv l m S wr) (hb : Below wr.heap.size wr w') : Und B w rb kv l m S w' :=
  ⟨h.col.later hb, h.kept.later hb, h.bel.trans (hb.mono h.bel.size), h.base⟩
theorem Und.turn {l' : List Pt} {S' : Nat → Prop} (h : Und B w rb kv l m S wr) (hs : St S wr w') (h' : Col B w' rb ⟨7, 3, l'⟩ S') : Und B w rb kv l' m S' w' :=
  ⟨h', h.kept.kept hs fun x hx => by obtain ⟨cur, hc⟩ := h.kept.blk hx; exact h.col.noPart hc, h.bel.trans ((h.col.below hs).mono h.base), h.base⟩
theorem Und.keep {kv' : Value} {m' : List Pt} (h : Und B w rb kv l m S wr) (hs : St (fun x => kv.ownBlock = some x) wr w') (h' : Parts w.heap.size w' kv' 7 m') : Und B w rb kv' l m' S w' :=
  ⟨h.col.kept hs fun k hk e => by obtain ⟨cur, hc⟩ := h.kept.blk e; exact h.col.noPart hc hk, h', h.bel.trans (hs.below (fun k hk => (World.ownsRow.lt h.kept k hk).1) h.bel.size), h.base⟩
end
/-- A part that came in. -/
structure PI where
  cm : Int
  p : Pt
def PI.wf (x : PI) : Prop := I64 x.p.t
def PRow (W : World) (v : Value) (ps : List PI) : Prop := ∃ a c, v = .slice a ps.length c ∧ (∀ x ∈ ps, x.wf) ∧ (ps = [] ∨ ∃ b o, a = some ⟨b, o, none⟩ ∧ ∀ (j : Nat) x, ps[j]? = some x → Six W b (o + j * 6) x.cm x.p)
theorem Six.later {W W' : World} {b o : Nat} {cm : Int} {p : Pt} (h : Six W b o cm p) (hb : Below W.heap.size W W') : Six W' b o cm p :=
  ⟨seen hb (Nat.le_refl _) h.c0, seen hb (Nat.le_refl _) h.c1, seen hb (Nat.le_refl _) h.c2, seen hb (Nat.le_refl _) h.c3, seen hb (Nat.le_refl _) h.c4, seen hb (Nat.le_refl _) h.c5⟩
theorem cells34 : Tryd.prog.cellsOf 34 = 6 := by kernel_rfl
theorem cells32 : Tryd.prog.cellsOf 32 = 4 := by kernel_rfl
theorem cellsInt : Tryd.prog.cellsOf 3 = 1 := by kernel_rfl
end Go.Proofs.YtpglanlpnapddaaDoor
