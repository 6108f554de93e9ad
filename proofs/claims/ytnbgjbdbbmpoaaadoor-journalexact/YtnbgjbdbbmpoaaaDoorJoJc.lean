/- A journal in memory: entries, stretches, what was told. -/
import Derived.Test.YtnbgjbdbbmpoaaaDoorJoJb
namespace Go.Proofs.YtnbgjbdbbmpoaaaDoor.Jo
open Go.RowKit Go.Shelf Go.Maps
/-- An entry, with where its parts lie. -/
structure Ue where
  k : Int
  id : Int
  p : Prt
  pv : Value
  ps : List Prt
  n : Int
  o : Int
def Ue.arr (u : Ue) : Array Value := #[.int .i64 u.k, .int .i64 u.id, .int .i64 u.p.c, .int .i64 u.p.v0, .int .i64 u.p.v1, .int .i64 u.p.v2, .int .i64 u.p.v3, .int .i64 u.p.t, u.pv, .int .i64 u.n, .int .i64 u.o]
def Ue.val (u : Ue) : Value := .agg #[.int .i64 u.k, .int .i64 u.id, .int .i64 u.p.c, .int .i64 u.p.v0, .int .i64 u.p.v1, .int .i64 u.p.v2, .int .i64 u.p.v3, .int .i64 u.p.t, u.pv, .int .i64 u.n, .int .i64 u.o]
/-- The entry alone. -/
def Ue.bare (u : Ue) : Ue := { u with pv := .slice none 0 0 }
/-- The entry with its parts elsewhere. -/
def Ue.with (u : Ue) (v : Value) : Ue := { u with pv := v }
theorem Ue.bare_with (u : Ue) (v : Value) : (u.with v).bare = u.bare := rfl
/-- An entry whose numbers are numbers. -/
def Ue.ok (u : Ue) : Prop := I64 u.id ∧ I64 u.p.c ∧ I64 u.n
def uCells (l : List Ue) : List Value := l.flatMap fun u => u.arr.toList
theorem uCells_snoc (l : List Ue) (u : Ue) : uCells (l ++ [u]) = uCells l ++ u.arr.toList := by simp [uCells]
theorem uCells_at : ∀ (l : List Ue) (j : Nat) (u : Ue), l[j]? = some u → ∀ i, i < 11 → (uCells l)[j * 11 + i]? = u.arr[i]? := by
  intro l
  induction l with
  | nil => intro j p h; simp at h
  | cons x l ih =>
    intro j p h i hi
    have e : uCells (x :: l) = x.arr.toList ++ uCells l := by simp [uCells]
    rw [e]
    cases j with
    | zero =>
      simp at h
      subst h
      rw [List.getElem?_append_left (by simp [Ue.arr]; omega)]
      simp
    | succ j =>
      have h2 := ih j p (by simpa using h) i hi
      rw [List.getElem?_append_right (by simp [Ue.arr]; omega), ← h2]
      congr 1
      simp [Ue.arr]
      omega
theorem infoUndo : (Tryd.prog.info? 38).map (fun i => (i.zero, i.size, i.bytes)) = some (some (.agg #[.int .i64 0, .int .i64 0, .int .i64 0, .int .i64 0, .int .i64 0, .int .i64 0, .int .i64 0, .int .i64 0, .slice none 0 0, .int .i64 0, .int .i64 0]), 11, 104) := by kernel_rfl
theorem infoStretch : (Tryd.prog.info? 75).map (fun i => (i.zero, i.size, i.bytes)) = some (some (.agg #[.int .i64 0, .slice none 0 0]), 2, 32) := by kernel_rfl
/-- A row of entries that is owned; each has its parts somewhere. -/
def Us (B : Nat) (W : World) (v : Value) (l : List Ue) : Prop := W.ownsRow B 38 11 v l.length (uCells l) ∧ ∀ u ∈ l, Prts B W u.pv u.ps
/-- A stretch: its frame, where its entries lie, the entries. -/
structure Sx where
  f : Int
  ev : Value
  l : List Ue
def sCells (l : List Sx) : List Value := l.flatMap fun s => [.int .i64 s.f, s.ev]
theorem sCells_cons (s : Sx) (l : List Sx) : sCells (s :: l) = .int .i64 s.f :: s.ev :: sCells l := by simp [sCells]
theorem sCells_snoc (l : List Sx) (s : Sx) : sCells (l ++ [s]) = sCells l ++ [.int .i64 s.f, s.ev] := by simp [sCells]
theorem sCells_len (l : List Sx) : (sCells l).length = l.length * 2 := by
  induction l with
  | nil => rfl
  | cons x l ih => rw [sCells_cons, List.length_cons, List.length_cons, ih, List.length_cons]; omega
theorem sCells_at (l : List Sx) : ∀ (j : Nat) (s : Sx), l[j]? = some s → (sCells l)[j * 2]? = some (.int .i64 s.f) ∧ (sCells l)[j * 2 + 1]? = some s.ev := by
  induction l with
  | nil => intro j s h; simp at h
  | cons x l ih =>
    intro j s h
    rw [sCells_cons]
    cases j with
    | zero => simp at h; subst h; simp
    | succ j =>
      obtain ⟨h1, h2⟩ := ih j s (by simpa using h)
      rw [show (j + 1) * 2 = j * 2 + 1 + 1 by omega]
      simpa using ⟨h1, h2⟩
theorem sCells_take (l : List Sx) (m : Nat) : (sCells l).take (m * 2) = sCells (l.take m) := by
  induction l generalizing m with
  | nil => simp [sCells]
  | cons x l ih =>
    cases m with
    | zero => simp [sCells]
    | succ m => rw [List.take_succ_cons, sCells_cons, sCells_cons, ← ih, show (m + 1) * 2 = m * 2 + 1 + 1 by omega]; simp
theorem sCells_drop (l : List Sx) (m : Nat) : (sCells l).drop (m * 2) = sCells (l.drop m) := by
  induction l generalizing m with
  | nil => simp [sCells]
  | cons x l ih =>
    cases m with
    | zero => simp
    | succ m => rw [List.drop_succ_cons, sCells_cons, ← ih, show (m + 1) * 2 = m * 2 + 1 + 1 by omega]; simp
/-- What an entry is about. -/
structure Mat where
  k : Int
  id : Int
  n : Int
def Mat.val (m : Mat) : Value := .agg #[.int .i64 m.k, .int .i64 m.id, .int .i64 m.n]
def Mat.ok (m : Mat) : Prop := I64 m.k ∧ I64 m.id ∧ I64 m.n
def aboutM (u : Ue) : Mat := if u.k = 1 ∨ u.k = 4 then ⟨u.k, u.id, u.p.c⟩ else if u.k = 2 then ⟨u.k, u.id, 0⟩ else if u.k = 6 then ⟨u.k, 0, u.n⟩ else ⟨u.k, 0, 0⟩
/-- What the map of a stretch must say of a matter. -/
def toldB (l : List Ue) (m : Mat) : Bool := l.any fun u => decide (u.k ≠ 3 ∧ u.k ≠ 5) && ((aboutM u).k == m.k && (aboutM u).id == m.id && (aboutM u).n == m.n)
theorem Tryd.laidOutJ : laidOutB Tryd.prog = true := by kernel_rfl
theorem Tryd.sizeM : 104 < Tryd.prog.types.size := of_decide_eq_true (by kernel_rfl)
theorem Tryd.wideM : (match Tryd.prog.underlying 104 with | some (.array _ _) | some (.struct _) => true | _ => false) = true := by rw [Tryd.underlying104]
set_option maxRecDepth 100000 in
theorem keyedM : Keyed Tryd.prog 104 := Keyed.of_law (deep_law_laid Tryd.laidOutJ (m := 2) (by omega) Tryd.sizeM (by kernel_rfl) Tryd.wideM)
theorem zeroS (w : World) : (zeroValue 108).run Tryd.prog w = .ok (.agg #[]) w := by kernel_rfl
/-- A matter's key. -/
def klM (m : Mat) : Lit := .string (keyBytes [.int .i64 m.k, .int .i64 m.id, .int .i64 m.n])
theorem klM_key (m : Mat) : WideAt.IsKeyLit (klM m) := trivial
theorem keyTM : Tryd.prog.keyType 104 = true := by kernel_rfl
theorem keySM : ∃ d, Tryd.prog.types.size + 1 = d + 2 := ⟨Tryd.prog.types.size - 1, by have := Tryd.sizeM; omega⟩
theorem cellsM : Tryd.prog.cellsOf 104 = 3 := by kernel_rfl
theorem cellsI : Tryd.prog.cellsOf 3 = 1 := by kernel_rfl
theorem litsI (d : Nat) (i : Int) (hi : I64 i) : Tryd.prog.keyLits (d + 1) 3 [.int .i64 i] = some [.int .i64 i] := by
  unfold Program.keyLits
  rw [Tryd.underlying3]
  exact if_pos ⟨rfl, hi⟩
theorem litsM (d : Nat) (a b c : Int) (ha : I64 a) (hb : I64 b) (hc : I64 c) : Tryd.prog.keyLits (d + 2) 104 [.int .i64 a, .int .i64 b, .int .i64 c] = some [.int .i64 a, .int .i64 b, .int .i64 c] := by
  unfold Program.keyLits
  rw [Tryd.underlying104]
  refine (if_pos ⟨by rw [cellsM]; rfl, by kernel_rfl⟩).trans ?_
  simp only [List.mapM_cons, List.mapM_nil, cellsI, List.drop_zero, List.drop_succ_cons, List.take_succ_cons, List.take_zero, litsI d a ha, litsI d b hb, litsI d c hc]
  rfl
theorem key_mat (m : Mat) (h : m.ok) : keyOf Tryd.prog 104 (.agg #[.int .i64 m.k, .int .i64 m.id, .int .i64 m.n]) = some (klM m) := by
  obtain ⟨d, hd⟩ := keySM
  unfold keyOf
  rw [Tryd.underlying104, hd]
  have hf : (Value.agg #[.int .i64 m.k, .int .i64 m.id, .int .i64 m.n]).formed Tryd.prog 104 = true := by
    unfold Value.formed
    rw [Tryd.underlying104, cellsM]
    rfl
  have hc : (Value.agg #[.int .i64 m.k, .int .i64 m.id, .int .i64 m.n]).cells.toList = [.int .i64 m.k, .int .i64 m.id, .int .i64 m.n] := rfl
  refine (if_pos (by rw [keyTM, hf]; rfl)).trans ?_
  rw [hc, litsM d _ _ _ h.1 h.2.1 h.2.2]
  rfl
theorem klM_inj {a b : Mat} (ha : a.ok) (hb : b.ok) (h : klM a = klM b) : a.k = b.k ∧ a.id = b.id ∧ a.n = b.n := by
  have := keyedM.inj (key_mat a ha) (h ▸ key_mat b hb)
  simpa using this
/-- What the map says. -/
def Holds (D : DataW Unit) (l : List Ue) : Prop := (∀ m : Mat, m.ok → Maps.has D (klM m) = toldB l m) ∧ Maps.size D ≤ l.length
def Mt (W : World) (mb : Nat) (l : List Ue) : Prop := ∃ D, W.ownsMap Tryd.prog 104 (unitElem (H := Unit)) mb (Maps.size D) D ∧ Holds D l
section
variable {W W' : World} {mb : Nat} {l : List Ue}
theorem Mt.lt (h : Mt W mb l) : mb < W.heap.size := by obtain ⟨D, h1, -⟩ := h; exact h1.lt
theorem Mt.kept {T : Nat → Prop} (h : Mt W mb l) (hs : St T W W') (hn : ¬ T mb) : Mt W' mb l := by
  obtain ⟨D, ⟨es, cl, hb, q⟩, h2⟩ := h
  exact ⟨D, ⟨es, cl, hs.at hb hn, q⟩, h2⟩
theorem Mt.obj (h : Mt W mb l) : ∃ es cl, W.heap[mb]? = some (.map es cl) := by
  obtain ⟨D, ⟨es, cl, hb, q⟩, h2⟩ := h
  exact ⟨es, cl, hb⟩
theorem mt_made (W : World) : Mt (W.alloc (.map #[] 0)) W.heap.size [] :=
  ⟨.map [], World.ownsMap_made W Tryd.prog 104 (unitElem (H := Unit)), fun _ _ => rfl, Nat.le_refl _⟩
theorem Mt.look (h : Mt W mb l) (m : Mat) (hm : m.ok) : (Instr.lookup 66 (.map (some mb)) (.agg #[.int .i64 m.k, .int .i64 m.id, .int .i64 m.n]) true).run Tryd.prog W = .ok (.tuple #[.agg #[], .bool (toldB l m)]) W := by
  obtain ⟨D, h1, hH⟩ := h
  obtain ⟨v, ps, hr, hv⟩ := h1.look_ok keyedM Tryd.underlying66 (zeroS W) (unitElem_mk (H := Unit)) (key_mat m hm)
  obtain ⟨rfl, -⟩ := unitElem_inv hv
  rw [hr, hH.1 m hm]
theorem toldB_snoc (l : List Ue) (u : Ue) (m : Mat) : toldB (l ++ [u]) m = (toldB l m || (decide (u.k ≠ 3 ∧ u.k ≠ 5) && ((aboutM u).k == m.k && (aboutM u).id == m.id && (aboutM u).n == m.n))) := by
  unfold toldB
  rw [List.any_append]
  simp
theorem I64_0 : I64 0 := by unfold I64 Lit.wf; simp [IntKind.min, IntKind.max, IntKind.signed, IntKind.bits]
theorem I64_k {k : Int} (h0 : 1 ≤ k) (h1 : k ≤ 9) : I64 k := I64_small (by omega) (by omega)
theorem aboutM_ok (u : Ue) (h : u.ok) (h0 : 1 ≤ u.k) (h1 : u.k ≤ 9) : (aboutM u).ok := by
  have hk := I64_k h0 h1
  unfold aboutM
  split
  · exact ⟨hk, h.1, h.2.1⟩
  · split
    · exact ⟨hk, h.1, I64_0⟩
    · split
      · exact ⟨hk, I64_0, h.2.2⟩
      · exact ⟨hk, I64_0, I64_0⟩
theorem Mt.store (h : Mt W mb l) (u : Ue) (hu : u.ok) (h0 : 1 ≤ u.k) (h1 : u.k ≤ 9) (h3 : u.k ≠ 3 ∧ u.k ≠ 5) (hl : l.length ≤ 100000) :
    ∃ w', (Instr.mapUpdate 66 (.map (some mb)) (.agg #[.int .i64 (aboutM u).k, .int .i64 (aboutM u).id, .int .i64 (aboutM u).n]) (.agg #[])).run Tryd.prog W = .ok () w' ∧ Mt w' mb (l ++ [u]) ∧ St (fun k => k = mb) W w' := by
  obtain ⟨D, g1, hH⟩ := h
  have hok := aboutM_ok u hu h0 h1
  obtain ⟨w', hr, g2, g3⟩ := g1.store keyedM Tryd.underlying66 (by unfold maxLen; have := hH.2; omega) (key_mat _ hok) (unitElem_mk (H := Unit))
  have hD := g1.tidy keyedM
  refine ⟨w', hr, ⟨_, own_size g2, fun m hm => ?_, ?_⟩, turned_st g3⟩
  · rw [toldB_snoc, decide_eq_true h3, Bool.true_and]
    by_cases q : (aboutM u).k = m.k ∧ (aboutM u).id = m.id ∧ (aboutM u).n = m.n
    · obtain ⟨q1, q2, q3⟩ := q
      have e : klM m = klM (aboutM u) := by unfold klM; rw [q1, q2, q3]
      rw [e, Maps.has_put_same hD.isMap (klM_key _), q1, q2, q3]
      simp
    · have e : klM m ≠ klM (aboutM u) := fun h => q (klM_inj hok hm h.symm)
      rw [Maps.has_put_other e, hH.1 m hm]
      have : ((aboutM u).k == m.k && (aboutM u).id == m.id && (aboutM u).n == m.n) = false := by
        rw [Bool.eq_false_iff]
        intro h
        simp only [Bool.and_eq_true, beq_iff_eq] at h
        exact q ⟨h.1.1, h.1.2, h.2⟩
      rw [this, Bool.or_false]
  · rw [Maps.size_put hD, List.length_append]
    have := hH.2
    split <;> simp <;> omega
theorem Mt.skip (h : Mt W mb l) (u : Ue) (h3 : ¬ (u.k ≠ 3 ∧ u.k ≠ 5)) : Mt W mb (l ++ [u]) := by
  obtain ⟨D, g1, hH⟩ := h
  refine ⟨D, g1, fun m hm => ?_, by have := hH.2; simp; omega⟩
  rw [toldB_snoc, decide_eq_false h3, Bool.false_and, Bool.or_false]
  exact hH.1 m hm
end
end Go.Proofs.YtnbgjbdbbmpoaaaDoor.Jo
