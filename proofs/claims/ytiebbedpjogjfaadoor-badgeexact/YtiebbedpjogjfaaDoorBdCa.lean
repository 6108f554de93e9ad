/- The document's badges: rows of pairs in memory. -/
import Derived.Test.YtiebbedpjogjfaaDoorBdBb
namespace Go.Proofs.YtiebbedpjogjfaaDoor.Bd
open Go.RowKit Go.Shelf Go.Maps
/-- A pair: a number, an entity. -/
def pArr (x : Int × Int × Int) : Array Value := #[.int .i64 x.1, .int .i64 x.2.1, .int .i64 x.2.2]
def pCells (l : Prs) : List Value := l.flatMap fun p => (pArr p).toList
theorem pCells_snoc (l : Prs) (p : Int × Int × Int) : pCells (l ++ [p]) = pCells l ++ (pArr p).toList := by simp [pCells]
theorem pCells_at : ∀ (l : Prs) (j : Nat) (p : Int × Int × Int), l[j]? = some p → ∀ i, i < 3 → (pCells l)[j * 3 + i]? = (pArr p)[i]? := by
  intro l
  induction l with
  | nil => intro j p h; simp at h
  | cons x l ih =>
    intro j p h i hi
    have e : pCells (x :: l) = (pArr x).toList ++ pCells l := by simp [pCells]
    rw [e]
    cases j with
    | zero =>
      simp at h
      subst h
      rw [List.getElem?_append_left (by simp [pArr]; omega)]
      simp
    | succ j =>
      have h2 := ih j p (by simpa using h) i hi
      rw [List.getElem?_append_right (by simp [pArr]; omega), ← h2]
      congr 1
      simp [pArr]
      omega
theorem infoPair : (Tryd.prog.info? 70).map (fun i => (i.zero, i.size, i.bytes)) = some (some (.agg #[.int .i64 0, .int .i64 0, .int .i64 0]), 3, 24) := by kernel_rfl
/-- A row of pairs that is owned. -/
def Pairs (B : Nat) (W : World) (v : Value) (l : Prs) : Prop := W.ownsRow B 70 3 v l.length (pCells l)
section
variable {B : Nat} {W W' : World} {v : Value} {l : Prs}
theorem Pairs.slice (h : Pairs B W v l) : ∃ a c, v = .slice a l.length c := own_slice h
theorem Pairs.kept {T : Nat → Prop} (h : Pairs B W v l) (hs : St T W W') (hn : ∀ x, v.ownBlock = some x → ¬ T x) : Pairs B W' v l := by
  refine ⟨h.1, h.2.elim .inl fun ⟨g, cap, cur, h1, h2, h3, h4⟩ => .inr ⟨g, cap, cur, h1, h2, ?_, h4⟩⟩
  exact hs.at h3 (hn g (by rw [h1]; rfl))
theorem Pairs.later (h : Pairs B W v l) (hb : Below W.heap.size W W') : Pairs B W' v l := h.kept (T := fun _ => False) (St.of_below hb) fun _ _ q => q
theorem Pairs.lt (h : Pairs B W v l) (k : Nat) (hk : v.ownBlock = some k) : B ≤ k ∧ k < W.heap.size := World.ownsRow.lt h k hk
theorem Pairs.lower {B' : Nat} (h : Pairs B W v l) (hB : B' ≤ B) : Pairs B' W v l :=
  ⟨h.1, h.2.elim .inl fun ⟨g, cap, cur, h1, h2, h3⟩ => .inr ⟨g, cap, cur, h1, by omega, h3⟩⟩
/-- The three cells of a pair. -/
structure Thr (W : World) (b o : Nat) (p : Int × Int × Int) : Prop where
  c0 : W.cell? ⟨b, o, none⟩ = some (.int .i64 p.1)
  c1 : W.cell? ⟨b, o + 1, none⟩ = some (.int .i64 p.2.1)
  c2 : W.cell? ⟨b, o + 2, none⟩ = some (.int .i64 p.2.2)
theorem Pairs.at {a : Option Addr} {c : Nat} (h : Pairs B W (.slice a l.length c) l) {j : Nat} {p : Int × Int × Int} (hj : l[j]? = some p) : ∃ g, a = some ⟨g, 0, none⟩ ∧ Thr W g (j * 3) p := by
  have hlt := (List.getElem?_eq_some_iff.1 hj).1
  obtain ⟨g, rfl⟩ : ∃ g, a = some ⟨g, 0, none⟩ := by
    obtain ⟨g, cap', e, h1, h2⟩ := World.ownsRow.form h (by omega)
    simp only [Value.slice.injEq, true_and] at e
    exact ⟨g, e.1⟩
  have A := pCells_at l j p hj
  have C : ∀ i, i < 3 → W.cell? ⟨g, j * 3 + i, none⟩ = (pArr p)[i]? := fun i hi => (World.ownsRow.cellAt h (j * 3 + i) (by omega)).trans (A i hi)
  exact ⟨g, rfl, C 0 (by decide), C 1 (by decide), C 2 (by decide)⟩
theorem pairs_none (W : World) : Pairs W.heap.size (W.alloc (.cells #[] 70)) (.slice (some ⟨W.heap.size, 0, none⟩) 0 0) [] :=
  World.ownsRow_lit (base := W.heap.size) (e := 70) (size := 3) W #[] 0 (Nat.le_refl _) (Nat.zero_le _) rfl
/-- append of one pair. -/
theorem wpList_pair {ops : Array Oper} {rest : List Oper} {o : Oper} {a : Act} {Q : Exit → Act → World → Prop} (hgd : o.guard = none) (s x : Operand)
    (ho : o.op = .call { callee := .builtin .append, args := #[s, x], argTypes := #[52, 52] }) {wc : World} {p : Int × Int × Int} (hown : Pairs B wc v l) (hl : l.length ≤ 1000) (hB : B ≤ wc.heap.size)
    (hs : a.eval s = v) (hx : a.eval x = .slice (some ⟨wc.heap.size, 0, none⟩) 1 1)
    (h : ∀ v' w2, Hid (Pairs B w2 v' (l ++ [p])) → Hid (St (fun x => v.ownBlock = some x) wc w2) → wpList Tryd.prog ops Q rest (a.put o.dst v') w2) :
    wpList Tryd.prog ops Q (o :: rest) a (wc.alloc (.cells #[.int .i64 p.1, .int .i64 p.2.1, .int .i64 p.2.2] 70)) := by
  obtain ⟨i0, hi, hz0, hz1, hz2⟩ := info_parts infoPair
  have hb := bAl wc (.cells (pArr p) 70)
  have ho2 : (wc.alloc (.cells (pArr p) 70)).ownsRow B 70 3 v l.length (pCells l) := World.ownsRow.alloc hown _
  have hh := heap_alloc_new wc (.cells (pArr p) 70)
  refine wpList_append_lies _ hgd s x 52 ho B 70 i0 (.agg #[.int .i64 0, .int .i64 0, .int .i64 0]) 3 24 Tryd.underlying52 hi hz0 hz1 hz2 rfl (by decide) v l.length (pCells l) hs ho2 ⟨wc.heap.size, 0, none⟩ 1 1 (pArr p).toList hx rfl (fun j u hu => by
    rw [add_at]
    exact cell_blk hh (by simpa using hu)) (by intro u hu; simp [pArr] at hu; rcases hu with rfl | rfl | rfl <;> rfl) (by decide) (by unfold maxLen; omega) (by omega) (by simp; omega) (wc.heap.size + 1) (by simp) ?_
  intro g' cap w2 ow hg hat hlt
  refine h _ w2 ?_ ((St.of_below hb).trans (St.of_grown (S := fun x => v.ownBlock = some x) hg fun k e => e) fun _ _ q => q)
  show World.ownsRow _ _ _ _ _ _ _
  rw [pCells_snoc, List.length_append]
  exact ow
/-- The document's badges in memory: a box with the row of pairs and the next number. -/
structure Rb (B : Nat) (W : World) (ub : Nat) (v : Value) (n : Int) (l : Prs) : Prop where
  box : W.heap[ub]? = some (.cells #[v, .int .i64 n] 54 (0, 0))
  row : Pairs B W v l
  low : B ≤ ub
  ne : v.ownBlock ≠ some ub
/-- Its blocks. -/
def Fu (ub : Nat) (v : Value) (k : Nat) : Prop := k = ub ∨ v.ownBlock = some k
theorem Rb.kept {ub : Nat} {n : Int} {T : Nat → Prop} (h : Rb B W ub v n l) (hs : St T W W') (hn : ∀ k, Fu ub v k → ¬ T k) : Rb B W' ub v n l :=
  ⟨hs.at h.box (hn _ (.inl rfl)), h.row.kept hs fun x hx => hn x (.inr hx), h.low, h.ne⟩
theorem Rb.later {ub : Nat} {n : Int} (h : Rb B W ub v n l) (hb : Below W.heap.size W W') : Rb B W' ub v n l := h.kept (T := fun _ => False) (St.of_below hb) fun _ _ q => q
theorem Rb.lt {ub : Nat} {n : Int} (h : Rb B W ub v n l) (k : Nat) (hk : Fu ub v k) : B ≤ k ∧ k < W.heap.size := by
  rcases hk with rfl | hk
  · exact ⟨h.low, (Array.getElem?_eq_some_iff.1 h.box).1⟩
  · exact h.row.lt k hk
theorem Rb.c0 {ub : Nat} {n : Int} (h : Rb B W ub v n l) : W.cell? ⟨ub, 0, none⟩ = some v := cell_blk h.box rfl
theorem Rb.c1 {ub : Nat} {n : Int} (h : Rb B W ub v n l) : W.cell? ⟨ub, 1, none⟩ = some (.int .i64 n) := cell_blk h.box rfl
end
end Go.Proofs.YtiebbedpjogjfaaDoor.Bd
