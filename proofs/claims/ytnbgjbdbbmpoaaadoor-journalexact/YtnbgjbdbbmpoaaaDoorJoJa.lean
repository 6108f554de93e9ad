/- For a journal: what lies where; parts; rows of parts. -/
import Derived.Test.YtnbgjbdbbmpoaaaDoorKr
import Derived.Test.YtnbgjbdbbmpoaaaDoorKp
import Derived.Maps.OwnSet
import Derived.DeepKeys4
import Derived.Laws.StructEq
import Derived.Laws.OwnMore
import Derived.ArgAppend
import Derived.Deep.RegionHeld3
import Derived.Deep.RegionLaw
import Derived.Deep.RegionHeldLaw
import Derived.Deep.AppendLies
import Derived.Deep.QuietTactic
import Derived.BigQuiet
import Derived.Deep.Cut
import Derived.Deep.LoopGhost
import Derived.Deep.RegionWith
namespace Go.Proofs.YtnbgjbdbbmpoaaaDoor.Jo
open Go.RowKit Go.Shelf Go.Maps
/-- Outside S all lies as it lay. -/
structure St (S : Nat → Prop) (W W' : World) : Prop where
  os : W'.os = W.os
  tape : W'.tape = W.tape
  output : W'.output = W.output
  size : W.heap.size ≤ W'.heap.size
  block : ∀ k, k < W.heap.size → ¬ S k → W'.heap[k]? = W.heap[k]?
theorem St.refl (S : Nat → Prop) (W : World) : St S W W := ⟨rfl, rfl, rfl, Nat.le_refl _, fun _ _ _ => rfl⟩
theorem St.trans {S T : Nat → Prop} {a b c : World} (h : St S a b) (k : St T b c) (hs : ∀ x, x < a.heap.size → T x → S x) : St S a c :=
  ⟨k.os.trans h.os, k.tape.trans h.tape, k.output.trans h.output, Nat.le_trans h.size k.size, fun x hx hn => (k.block x (Nat.lt_of_lt_of_le hx h.size) (fun q => hn (hs x hx q))).trans (h.block x hx hn)⟩
theorem St.of_below {S : Nat → Prop} {a b : World} (h : Below a.heap.size a b) : St S a b := ⟨h.os, h.tape, h.output, h.size, fun k hk _ => h.block k hk⟩
theorem St.of_grown {S : Nat → Prop} {a b : World} {row : Option Nat} (h : a.grownBy b row) (hS : ∀ k, row = some k → S k) : St S a b :=
  ⟨h.os, h.tape, h.output, h.size, fun k hk hn => h.block k hk (fun e => hn (hS k e.symm))⟩
theorem St.below {S : Nat → Prop} {a b : World} {B : Nat} (h : St S a b) (hS : ∀ k, S k → B ≤ k) (hB : B ≤ a.heap.size) : Below B a b :=
  ⟨h.os, h.tape, h.output, h.size, fun k hk => h.block k (by omega) (fun q => by have := hS k q; omega)⟩
theorem St.setCell {S : Nat → Prop} {a : World} {p : Addr} (v : Value) (hp : S p.block) : St S a (a.setCell p v) :=
  ⟨rfl, rfl, rfl, by simp, fun k _ hn => Below.heap_setCell _ _ _ _ (fun e => hn (e ▸ hp))⟩
theorem St.at {S : Nat → Prop} {W W' : World} {b : Nat} {o : Obj} (hs : St S W W') (h : W.heap[b]? = some o) (hn : ¬ S b) : W'.heap[b]? = some o := (hs.block b (Array.getElem?_eq_some_iff.1 h).1 hn).trans h
theorem bAl (W : World) (o : Obj) : Below W.heap.size W (W.alloc o) := (Below.refl _ _).alloc (Nat.le_refl _) _
theorem cell_blk {W : World} {b j : Nat} {cs : Array Value} {e : TypeId} {u : Value} (h : W.heap[b]? = some (.cells cs e (0, 0))) (hj : cs[j]? = some u) : W.cell? ⟨b, j, none⟩ = some u := by
  rw [cell_of_row _ _ j _ e (0, 0) h]; exact hj
theorem blk_free {W : World} {b : Nat} {cs : Array Value} {e : TypeId} (h : W.heap[b]? = some (.cells cs e (0, 0))) (j : Nat) : W.frozen? ⟨b, j, none⟩ = false := by
  unfold World.frozen?
  rw [show (⟨b, j, none⟩ : Addr).block = b from rfl, h]
  simp
theorem blk_seen {W W' : World} {B b : Nat} {o : Obj} (hb : Below B W W') (hB : W.heap.size ≤ B) (h : W.heap[b]? = some o) : W'.heap[b]? = some o := (hb.block b (Nat.lt_of_lt_of_le (Array.getElem?_eq_some_iff.1 h).1 hB)).trans h
theorem seen {B : Nat} {W W' : World} (hb : Below B W W') (hB : W.heap.size ≤ B) {p : Addr} {u : Value} (h : W.cell? p = some u) : W'.cell? p = some u := (hb.cell (p := p) (Nat.lt_of_lt_of_le (World.block_lt_of_cell? W p h) hB)).trans h
def I64 (i : Int) : Prop := (Lit.int .i64 i).wf = true
theorem I64_small {n : Int} (h0 : 0 ≤ n) (h1 : n ≤ 1000000) : I64 n := by
  unfold I64 Lit.wf
  simp [IntKind.min, IntKind.max, IntKind.signed, IntKind.bits]
  omega
theorem own_size {k : TypeId} {R : Value → Option (DataW Unit × List MemPlace)} {W : World} {mb n : Nat} {D : DataW Unit} (h : W.ownsMap Tryd.prog k R mb n D) : W.ownsMap Tryd.prog k R mb (Maps.size D) D := by
  obtain ⟨es, clock, hb, F, _, rfl⟩ := h
  exact ⟨es, clock, hb, F, by simp [Maps.size, length_sorted], rfl⟩
theorem turned_st {W W' : World} {mb : Nat} (h : W.mapTurned W' mb) : St (fun k => k = mb) W W' := St.of_grown h.grown fun k e => by simpa using e.symm
/-- A part. -/
structure Prt where
  c : Int
  v0 : Int
  v1 : Int
  v2 : Int
  v3 : Int
  t : Int
def Prt.arr (p : Prt) : Array Value := #[.int .i64 p.c, .int .i64 p.v0, .int .i64 p.v1, .int .i64 p.v2, .int .i64 p.v3, .int .i64 p.t]
def Prt.val (p : Prt) : Value := .agg #[.int .i64 p.c, .int .i64 p.v0, .int .i64 p.v1, .int .i64 p.v2, .int .i64 p.v3, .int .i64 p.t]
def Prt.zero : Prt := ⟨0, 0, 0, 0, 0, 0⟩
/-- The cells of parts, one behind the other. -/
def pCells (l : List Prt) : List Value := l.flatMap fun p => p.arr.toList
theorem pCells_snoc (l : List Prt) (p : Prt) : pCells (l ++ [p]) = pCells l ++ p.arr.toList := by simp [pCells]
theorem pCells_at : ∀ (l : List Prt) (j : Nat) (p : Prt), l[j]? = some p → ∀ i, i < 6 → (pCells l)[j * 6 + i]? = p.arr[i]? := by
  intro l
  induction l with
  | nil => intro j p h; simp at h
  | cons x l ih =>
    intro j p h i hi
    have e : pCells (x :: l) = x.arr.toList ++ pCells l := by simp [pCells]
    rw [e]
    cases j with
    | zero =>
      simp at h
      subst h
      rw [List.getElem?_append_left (by simp [Prt.arr]; omega)]
      simp
    | succ j =>
      have h2 := ih j p (by simpa using h) i hi
      rw [List.getElem?_append_right (by simp [Prt.arr]; omega), ← h2]
      congr 1
      simp [Prt.arr]
      omega
theorem infoPart : (Tryd.prog.info? 35).map (fun i => (i.zero, i.size, i.bytes)) = some (some (.agg #[.int .i64 0, .int .i64 0, .int .i64 0, .int .i64 0, .int .i64 0, .int .i64 0]), 6, 48) := by kernel_rfl
/-- A row of parts that is owned. -/
def Prts (B : Nat) (W : World) (v : Value) (l : List Prt) : Prop := W.ownsRow B 35 6 v l.length (pCells l)
theorem Prts.slice {B : Nat} {W : World} {v : Value} {l : List Prt} (h : Prts B W v l) : ∃ a c, v = .slice a l.length c := own_slice h
theorem Prts.kept {B : Nat} {W W' : World} {v : Value} {l : List Prt} {T : Nat → Prop} (h : Prts B W v l) (hs : St T W W') (hn : ∀ x, v.ownBlock = some x → ¬ T x) : Prts B W' v l := by
  refine ⟨h.1, h.2.elim .inl fun ⟨g, cap, cur, h1, h2, h3, h4⟩ => .inr ⟨g, cap, cur, h1, h2, ?_, h4⟩⟩
  exact hs.at h3 (hn g (by rw [h1]; rfl))
theorem Prts.later {B : Nat} {W W' : World} {v : Value} {l : List Prt} (h : Prts B W v l) (hb : Below W.heap.size W W') : Prts B W' v l := h.kept (T := fun _ => False) (St.of_below hb) fun _ _ q => q
theorem Prts.lt {B : Nat} {W : World} {v : Value} {l : List Prt} (h : Prts B W v l) (k : Nat) (hk : v.ownBlock = some k) : B ≤ k ∧ k < W.heap.size := World.ownsRow.lt h k hk
theorem Prts.lower {B B' : Nat} {W : World} {v : Value} {l : List Prt} (h : Prts B W v l) (hB : B' ≤ B) : Prts B' W v l :=
  ⟨h.1, h.2.elim .inl fun ⟨g, cap, cur, h1, h2, h3⟩ => .inr ⟨g, cap, cur, h1, by omega, h3⟩⟩
/-- The six cells of a part. -/
structure Six (W : World) (b o : Nat) (p : Prt) : Prop where
  c0 : W.cell? ⟨b, o, none⟩ = some (.int .i64 p.c)
  c1 : W.cell? ⟨b, o + 1, none⟩ = some (.int .i64 p.v0)
  c2 : W.cell? ⟨b, o + 2, none⟩ = some (.int .i64 p.v1)
  c3 : W.cell? ⟨b, o + 3, none⟩ = some (.int .i64 p.v2)
  c4 : W.cell? ⟨b, o + 4, none⟩ = some (.int .i64 p.v3)
  c5 : W.cell? ⟨b, o + 5, none⟩ = some (.int .i64 p.t)
theorem Six.later {W W' : World} {b o : Nat} {p : Prt} (h : Six W b o p) (hb : Below W.heap.size W W') : Six W' b o p :=
  ⟨seen hb (Nat.le_refl _) h.c0, seen hb (Nat.le_refl _) h.c1, seen hb (Nat.le_refl _) h.c2, seen hb (Nat.le_refl _) h.c3, seen hb (Nat.le_refl _) h.c4, seen hb (Nat.le_refl _) h.c5⟩
/-- A row of parts that can be read. -/
def PRow (W : World) (v : Value) (l : List Prt) : Prop := ∃ a c, v = .slice a l.length c ∧ (l = [] ∨ ∃ b o, a = some ⟨b, o, none⟩ ∧ ∀ (j : Nat) p, l[j]? = some p → Six W b (o + j * 6) p)
theorem PRow.later {W W' : World} {v : Value} {l : List Prt} (h : PRow W v l) (hb : Below W.heap.size W W') : PRow W' v l := by
  obtain ⟨a, c, h1, h2⟩ := h
  refine ⟨a, c, h1, ?_⟩
  rcases h2 with h2 | ⟨b, o, h2, h3⟩
  · exact .inl h2
  · exact .inr ⟨b, o, h2, fun j p hj => (h3 j p hj).later hb⟩
theorem Prts.row {B : Nat} {W : World} {v : Value} {l : List Prt} (h : Prts B W v l) : PRow W v l := by
  obtain ⟨a, c, rfl⟩ := h.slice
  refine ⟨a, c, rfl, ?_⟩
  by_cases h0 : l = []
  · exact .inl h0
  · obtain ⟨g, rfl⟩ : ∃ g, a = some ⟨g, 0, none⟩ := by
      obtain ⟨g, cap', e, h1, h2⟩ := World.ownsRow.form h (List.length_pos_iff.2 h0)
      simp only [Value.slice.injEq, true_and] at e
      exact ⟨g, e.1⟩
    refine .inr ⟨g, 0, rfl, fun j p hj => ?_⟩
    have hlt := (List.getElem?_eq_some_iff.1 hj).1
    have A := pCells_at l j p hj
    have C : ∀ i, i < 6 → W.cell? ⟨g, j * 6 + i, none⟩ = p.arr[i]? := fun i hi => (World.ownsRow.cellAt h (j * 6 + i) (by omega)).trans (A i hi)
    rw [Nat.zero_add]
    exact ⟨C 0 (by decide), C 1 (by decide), C 2 (by decide), C 3 (by decide), C 4 (by decide), C 5 (by decide)⟩
theorem PRow.at {W : World} {a : Option Addr} {c : Nat} {l : List Prt} (h : PRow W (.slice a l.length c) l) {j : Nat} {p : Prt} (hj : l[j]? = some p) : ∃ b o, a = some ⟨b, o, none⟩ ∧ Six W b (o + j * 6) p := by
  obtain ⟨a', c', h1, h2⟩ := h
  obtain ⟨rfl, rfl⟩ : a = a' ∧ c = c' := by simpa using h1
  rcases h2 with h2 | ⟨b, o, h2, h3⟩
  · rw [h2] at hj; simp at hj
  · exact ⟨b, o, h2, h3 j p hj⟩
theorem Prts.at {B : Nat} {W : World} {v : Value} {l : List Prt} (h : Prts B W v l) {k : Nat} (hk : v.ownBlock = some k) : ∃ cur, W.heap[k]? = some (.cells cur 35 (0, 0)) := by
  rcases h.2 with ⟨h1, -⟩ | ⟨g, cap, cur, h1, h2, h3, -⟩
  · rw [h1] at hk; cases hk
  · rw [h1] at hk
    obtain rfl : g = k := by simpa [Value.ownBlock] using hk
    exact ⟨cur, h3⟩
end Go.Proofs.YtnbgjbdbbmpoaaaDoor.Jo
