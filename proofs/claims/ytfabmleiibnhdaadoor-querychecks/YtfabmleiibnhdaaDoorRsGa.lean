/- Rows of parts in memory, of whatever components. -/
import Derived.Test.YtfabmleiibnhdaaDoorAtAi
import Derived.Test.YtfabmleiibnhdaaDoorRoTd
import Derived.Laws.StructEq
namespace Go.Proofs.YtfabmleiibnhdaaDoor.Rs
open Go.RowKit Go.Shelf Go.Maps
open Go.Proofs.YtfabmleiibnhdaaDoor.At (St bAl cell_blk blk_seen blk_free drewN_below an wi wo pow32 bits_or32 pow_le add balloc)
/-- A part. -/
structure Prt where
  c : Int
  v0 : Int
  v1 : Int
  v2 : Int
  v3 : Int
  t : Int
def Prt.arr (p : Prt) : Array Value := #[.int .i64 p.c, .int .i64 p.v0, .int .i64 p.v1, .int .i64 p.v2, .int .i64 p.v3, .int .i64 p.t]
def Prt.val (p : Prt) : Value := .agg #[.int .i64 p.c, .int .i64 p.v0, .int .i64 p.v1, .int .i64 p.v2, .int .i64 p.v3, .int .i64 p.t]
def Prt.zero : Prt := ⟨0, 0, 0, 0, 0, 0⟩
/-- The cells of parts, one behind the other. -/
def pCells (l : List Prt) : List Value := l.flatMap fun p => p.arr.toList
theorem pCells_snoc (l : List Prt) (p : Prt) : pCells (l ++ [p]) = pCells l ++ p.arr.toList := by simp [pCells]
theorem pCells_at : ∀ (l : List Prt) (j : Nat) (p : Prt), l[j]? = some p → ∀ i, i < 6 → (pCells l)[j * 6 + i]? = p.arr[i]? := by
  intro l
  induction l with
  | nil => intro j p h; simp at h
  | cons x l ih =>
    intro j p h i hi
    have e : pCells (x :: l) = x.arr.toList ++ pCells l := by simp [pCells]
    rw [e]
    cases j with
    | zero =>
      simp at h
      subst h
      rw [List.getElem?_append_left (by simp [Prt.arr]; omega)]
      simp
    | succ j =>
      have h2 := ih j p (by simpa using h) i hi
      rw [List.getElem?_append_right (by simp [Prt.arr]; omega), ← h2]
      congr 1
      simp [Prt.arr]
      omega
theorem infoPart : (Tryd.prog.info? 55).map (fun i => (i.zero, i.size, i.bytes)) = some (some (.agg #[.int .i64 0, .int .i64 0, .int .i64 0, .int .i64 0, .int .i64 0, .int .i64 0]), 6, 48) := by kernel_rfl
/-- A row of parts that is owned. -/
def Prts (B : Nat) (W : World) (v : Value) (l : List Prt) : Prop := W.ownsRow B 55 6 v l.length (pCells l)
theorem Prts.slice {B : Nat} {W : World} {v : Value} {l : List Prt} (h : Prts B W v l) : ∃ a c, v = .slice a l.length c := own_slice h
theorem Prts.kept {B : Nat} {W W' : World} {v : Value} {l : List Prt} {T : Nat → Prop} (h : Prts B W v l) (hs : St T W W') (hn : ∀ x, v.ownBlock = some x → ¬ T x) : Prts B W' v l := by
  refine ⟨h.1, h.2.elim .inl fun ⟨g, cap, cur, h1, h2, h3, h4⟩ => .inr ⟨g, cap, cur, h1, h2, ?_, h4⟩⟩
  exact hs.at h3 (hn g (by rw [h1]; rfl))
theorem Prts.later {B : Nat} {W W' : World} {v : Value} {l : List Prt} (h : Prts B W v l) (hb : Below W.heap.size W W') : Prts B W' v l := h.kept (T := fun _ => False) (St.of_below hb) fun _ _ q => q
theorem Prts.lt {B : Nat} {W : World} {v : Value} {l : List Prt} (h : Prts B W v l) (k : Nat) (hk : v.ownBlock = some k) : B ≤ k ∧ k < W.heap.size := World.ownsRow.lt h k hk
theorem Prts.lower {B B' : Nat} {W : World} {v : Value} {l : List Prt} (h : Prts B W v l) (hB : B' ≤ B) : Prts B' W v l :=
  ⟨h.1, h.2.elim .inl fun ⟨g, cap, cur, h1, h2, h3⟩ => .inr ⟨g, cap, cur, h1, by omega, h3⟩⟩
/-- The six cells of a part. -/
structure Six (W : World) (b o : Nat) (p : Prt) : Prop where
  c0 : W.cell? ⟨b, o, none⟩ = some (.int .i64 p.c)
  c1 : W.cell? ⟨b, o + 1, none⟩ = some (.int .i64 p.v0)
  c2 : W.cell? ⟨b, o + 2, none⟩ = some (.int .i64 p.v1)
  c3 : W.cell? ⟨b, o + 3, none⟩ = some (.int .i64 p.v2)
  c4 : W.cell? ⟨b, o + 4, none⟩ = some (.int .i64 p.v3)
  c5 : W.cell? ⟨b, o + 5, none⟩ = some (.int .i64 p.t)
theorem Six.later {W W' : World} {b o : Nat} {p : Prt} (h : Six W b o p) (hb : Below W.heap.size W W') : Six W' b o p :=
  ⟨At.seen hb (Nat.le_refl _) h.c0, At.seen hb (Nat.le_refl _) h.c1, At.seen hb (Nat.le_refl _) h.c2, At.seen hb (Nat.le_refl _) h.c3, At.seen hb (Nat.le_refl _) h.c4, At.seen hb (Nat.le_refl _) h.c5⟩
theorem six_blk {W : World} {b : Nat} {p : Prt} {e : TypeId} (h : W.heap[b]? = some (.cells p.arr e (0, 0))) : Six W b 0 p :=
  ⟨cell_blk h rfl, cell_blk h rfl, cell_blk h rfl, cell_blk h rfl, cell_blk h rfl, cell_blk h rfl⟩
/-- A row of parts that can be read. -/
def PRow (W : World) (v : Value) (l : List Prt) : Prop := ∃ a c, v = .slice a l.length c ∧ (l = [] ∨ ∃ b o, a = some ⟨b, o, none⟩ ∧ ∀ (j : Nat) p, l[j]? = some p → Six W b (o + j * 6) p)
theorem PRow.later {W W' : World} {v : Value} {l : List Prt} (h : PRow W v l) (hb : Below W.heap.size W W') : PRow W' v l := by
  obtain ⟨a, c, h1, h2⟩ := h
  refine ⟨a, c, h1, ?_⟩
  rcases h2 with h2 | ⟨b, o, h2, h3⟩
  · exact .inl h2
  · exact .inr ⟨b, o, h2, fun j p hj => (h3 j p hj).later hb⟩
theorem Prts.row {B : Nat} {W : World} {v : Value} {l : List Prt} (h : Prts B W v l) : PRow W v l := by
  obtain ⟨a, c, rfl⟩ := h.slice
  refine ⟨a, c, rfl, ?_⟩
  by_cases h0 : l = []
  · exact .inl h0
  · obtain ⟨g, rfl⟩ : ∃ g, a = some ⟨g, 0, none⟩ := by
      obtain ⟨g, cap', e, h1, h2⟩ := World.ownsRow.form h (List.length_pos_iff.2 h0)
      simp only [Value.slice.injEq, true_and] at e
      exact ⟨g, e.1⟩
    refine .inr ⟨g, 0, rfl, fun j p hj => ?_⟩
    have hlt := (List.getElem?_eq_some_iff.1 hj).1
    have A := pCells_at l j p hj
    have C : ∀ i, i < 6 → W.cell? ⟨g, j * 6 + i, none⟩ = p.arr[i]? := fun i hi => (World.ownsRow.cellAt h (j * 6 + i) (by omega)).trans (A i hi)
    rw [Nat.zero_add]
    exact ⟨C 0 (by decide), C 1 (by decide), C 2 (by decide), C 3 (by decide), C 4 (by decide), C 5 (by decide)⟩
theorem PRow.at {W : World} {a : Option Addr} {c : Nat} {l : List Prt} (h : PRow W (.slice a l.length c) l) {j : Nat} {p : Prt} (hj : l[j]? = some p) : ∃ b o, a = some ⟨b, o, none⟩ ∧ Six W b (o + j * 6) p := by
  obtain ⟨a', c', h1, h2⟩ := h
  obtain ⟨rfl, rfl⟩ : a = a' ∧ c = c' := by simpa using h1
  rcases h2 with h2 | ⟨b, o, h2, h3⟩
  · rw [h2] at hj; simp at hj
  · exact ⟨b, o, h2, h3 j p hj⟩
theorem prts_none (W : World) : Prts W.heap.size (W.alloc (.cells #[] 55)) (.slice (some ⟨W.heap.size, 0, none⟩) 0 0) [] :=
  World.ownsRow_lit (base := W.heap.size) (e := 55) (size := 6) W #[] 0 (Nat.le_refl _) (Nat.zero_le _) rfl
/-- append of one part. -/
theorem wpList_prt {ops : Array Oper} {rest : List Oper} {o : Oper} {a : Act} {Q : Exit → Act → World → Prop} (hgd : o.guard = none) (s x : Operand)
    (ho : o.op = .call { callee := .builtin .append, args := #[s, x], argTypes := #[31, 31] }) {B : Nat} {wc : World} {v : Value} {l : List Prt} {p : Prt} (hown : Prts B wc v l) (hl : l.length ≤ 1000) (hB : B ≤ wc.heap.size)
    (hs : a.eval s = v) (hx : a.eval x = .slice (some ⟨wc.heap.size, 0, none⟩) 1 1)
    (h : ∀ v' w2, Hid (Prts B w2 v' (l ++ [p])) → Hid (St (fun x => v.ownBlock = some x) wc w2) → wpList Tryd.prog ops Q rest (a.put o.dst v') w2) :
    wpList Tryd.prog ops Q (o :: rest) a (wc.alloc (.cells #[.int .i64 p.c, .int .i64 p.v0, .int .i64 p.v1, .int .i64 p.v2, .int .i64 p.v3, .int .i64 p.t] 55)) := by
  obtain ⟨i0, hi, hz0, hz1, hz2⟩ := info_parts infoPart
  have hb := bAl wc (.cells p.arr 55)
  have ho2 : (wc.alloc (.cells p.arr 55)).ownsRow B 55 6 v l.length (pCells l) := World.ownsRow.alloc hown _
  have hh := heap_alloc_new wc (.cells p.arr 55)
  refine wpList_append_lies _ hgd s x 31 ho B 55 i0 (.agg #[.int .i64 0, .int .i64 0, .int .i64 0, .int .i64 0, .int .i64 0, .int .i64 0]) 6 48 Tryd.underlying31 hi hz0 hz1 hz2 rfl (by decide) v l.length (pCells l) hs ho2 ⟨wc.heap.size, 0, none⟩ 1 1 p.arr.toList hx rfl (fun j u hu => by
    rw [add_at]
    exact cell_blk hh (by simpa using hu)) (by intro u hu; simp [Prt.arr] at hu; rcases hu with rfl | rfl | rfl | rfl | rfl | rfl <;> rfl) (by decide) (by unfold maxLen; omega) (by omega) (by simp; omega) (wc.heap.size + 1) (by simp) ?_
  intro g' cap w2 ow hg hat hlt
  refine h _ w2 ?_ ((St.of_below hb).trans (St.of_grown (S := fun x => v.ownBlock = some x) hg fun k e => e) fun _ _ q => q)
  show World.ownsRow _ _ _ _ _ _ _
  rw [pCells_snoc, List.length_append]
  exact ow
/-- Where a component is among parts. -/
def ix (l : List Prt) (comp : Int) : Nat := l.findIdx fun p => p.c == comp
def ixI (l : List Prt) (comp : Int) : Int := if ix l comp < l.length then (ix l comp : Int) else -1
theorem ix_hit {l : List Prt} {comp : Int} {k : Nat} {p : Prt} (hk : k ≤ ix l comp) (hp : l[k]? = some p) (hc : p.c = comp) : ix l comp = k := by
  obtain ⟨hl, rfl⟩ := List.getElem?_eq_some_iff.1 hp
  refine Nat.le_antisymm (Nat.le_of_not_lt fun q => ?_) hk
  have := List.not_of_lt_findIdx q
  simp [hc] at this
theorem ix_miss {l : List Prt} {comp : Int} {k : Nat} {p : Prt} (hk : k ≤ ix l comp) (hp : l[k]? = some p) (hc : ¬ p.c = comp) : k + 1 ≤ ix l comp := by
  obtain ⟨hl, rfl⟩ := List.getElem?_eq_some_iff.1 hp
  refine Nat.lt_of_le_of_ne hk fun e => ?_
  have hlt : List.findIdx (fun p : Prt => p.c == comp) l < l.length := by show ix l comp < _; omega
  have := List.findIdx_getElem (w := hlt)
  simp only [beq_iff_eq] at this
  have e' : List.findIdx (fun p : Prt => p.c == comp) l = k := e.symm
  simp only [e'] at this
  exact hc this
/-- A row with a part more: whether it is in, and what there is so far. -/
def wst (p : Prt) (l : List Prt) : Bool × List Prt := l.foldl (fun s x => if !s.1 && decide (p.c < x.c) then (true, s.2 ++ [p] ++ [x]) else (s.1, s.2 ++ [x])) (false, [])
def insP (l : List Prt) (p : Prt) : List Prt := if (wst p l).1 then (wst p l).2 else (wst p l).2 ++ [p]
theorem wst_next (p : Prt) {l : List Prt} {k : Nat} {x : Prt} (h : l[k]? = some x) : wst p (l.take (k + 1)) = if !(wst p (l.take k)).1 && decide (p.c < x.c) then (true, (wst p (l.take k)).2 ++ [p] ++ [x]) else ((wst p (l.take k)).1, (wst p (l.take k)).2 ++ [x]) := by
  obtain ⟨hl, rfl⟩ := List.getElem?_eq_some_iff.1 h
  unfold wst
  rw [List.take_succ_eq_append_getElem hl, List.foldl_append]
  rfl
theorem wst_len (p : Prt) (l : List Prt) : (wst p l).2.length = l.length + if (wst p l).1 then 1 else 0 := by
  suffices h : ∀ (l : List Prt) (s : Bool × List Prt), (l.foldl (fun s x => if !s.1 && decide (p.c < x.c) then (true, s.2 ++ [p] ++ [x]) else (s.1, s.2 ++ [x])) s).2.length + (if s.1 then 1 else 0) = s.2.length + l.length + if (l.foldl (fun s x => if !s.1 && decide (p.c < x.c) then (true, s.2 ++ [p] ++ [x]) else (s.1, s.2 ++ [x])) s).1 then 1 else 0 by
    have := h l (false, [])
    unfold wst
    simp only [List.length_nil, Bool.false_eq_true, if_false] at this
    omega
  intro l
  induction l with
  | nil => intro s; simp
  | cons x l ih =>
    intro s
    rw [List.foldl_cons]
    have := ih (if !s.1 && decide (p.c < x.c) then (true, s.2 ++ [p] ++ [x]) else (s.1, s.2 ++ [x]))
    obtain ⟨b, o⟩ := s
    cases b <;> by_cases hc : p.c < x.c <;> simp [hc] at this ⊢ <;> omega
end Go.Proofs.YtfabmleiibnhdaaDoor.Rs
