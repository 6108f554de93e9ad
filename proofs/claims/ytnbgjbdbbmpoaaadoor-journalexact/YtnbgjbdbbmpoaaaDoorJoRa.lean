/- The document's journal in memory: rows of entries behind marks. -/
import Derived.Test.YtnbgjbdbbmpoaaaDoorJoPb
import Derived.Test.YtnbgjbdbbmpoaaaDoorKh
namespace Go.Proofs.YtnbgjbdbbmpoaaaDoor.Jo
open Go.RowKit Go.Shelf Go.Maps
/-- An entry behind a mark. -/
structure En where
  m : Int
  u : Ue
def En.arr (e : En) : Array Value := #[.int .i64 e.m, .int .i64 e.u.k, .int .i64 e.u.id, .int .i64 e.u.p.c, .int .i64 e.u.p.v0, .int .i64 e.u.p.v1, .int .i64 e.u.p.v2, .int .i64 e.u.p.v3, .int .i64 e.u.p.t, e.u.pv, .int .i64 e.u.n, .int .i64 e.u.o]
def eCells (l : List En) : List Value := l.flatMap fun e => e.arr.toList
theorem eCells_snoc (l : List En) (e : En) : eCells (l ++ [e]) = eCells l ++ e.arr.toList := by simp [eCells]
theorem eCells_len (l : List En) : (eCells l).length = l.length * 12 := by
  induction l with
  | nil => rfl
  | cons x l ih =>
    have e : eCells (x :: l) = x.arr.toList ++ eCells l := by simp [eCells]
    rw [e, List.length_append, ih, List.length_cons]
    simp [En.arr]
    omega
theorem eCells_at : ∀ (l : List En) (j : Nat) (e : En), l[j]? = some e → ∀ i, i < 12 → (eCells l)[j * 12 + i]? = e.arr[i]? := by
  intro l
  induction l with
  | nil => intro j p h; simp at h
  | cons x l ih =>
    intro j p h i hi
    have e : eCells (x :: l) = x.arr.toList ++ eCells l := by simp [eCells]
    rw [e]
    cases j with
    | zero =>
      simp at h
      subst h
      rw [List.getElem?_append_left (by simp [En.arr]; omega)]
      simp
    | succ j =>
      have h2 := ih j p (by simpa using h) i hi
      rw [List.getElem?_append_right (by simp [En.arr]; omega), ← h2]
      congr 1
      simp [En.arr]
      omega
theorem infoEn : (Tryd.prog.info? 79).map (fun i => (i.zero, i.size, i.bytes)) = some (some (.agg #[.int .i64 0, .int .i64 0, .int .i64 0, .int .i64 0, .int .i64 0, .int .i64 0, .int .i64 0, .int .i64 0, .int .i64 0, .slice none 0 0, .int .i64 0, .int .i64 0]), 12, 112) := by kernel_rfl
/-- A list of parts that is a slice. -/
def Sl (u : Ue) : Prop := ∃ a n c, u.pv = .slice a n c
theorem Sl.one {u : Ue} (h : Sl u) : u.pv.oneCell' = true := by obtain ⟨a, n, c, h⟩ := h; rw [h]; rfl
theorem En.one {e : En} (h : Sl e.u) : ∀ v ∈ e.arr.toList, v.oneCell' = true := by
  intro q hq
  simp [En.arr] at hq
  rcases hq with rfl | rfl | rfl | rfl | rfl | rfl | rfl | rfl | rfl | rfl | rfl | rfl <;> first | rfl | exact h.one
theorem eCells_one (l : List En) (h : ∀ e ∈ l, Sl e.u) : ∀ v ∈ eCells l, v.oneCell' = true := by
  intro v hv
  simp only [eCells, List.mem_flatMap] at hv
  obtain ⟨e, he, hq⟩ := hv
  exact En.one (h e he) v hq
/-- A row of entries behind marks, owned. -/
def Eo (B : Nat) (W : World) (v : Value) (l : List En) : Prop := W.ownsRow B 79 12 v l.length (eCells l) ∧ ∀ e ∈ l, Sl e.u
/-- A row of entries, owned but for their parts. -/
def Uo (B : Nat) (W : World) (v : Value) (l : List Ue) : Prop := W.ownsRow B 38 11 v l.length (uCells l) ∧ ∀ u ∈ l, Sl u
theorem run_append_nothing {w : World} (base : Nat) (t ty e : TypeId) (i : TypeInfo) (size : Nat) (ht : Tryd.prog.underlying t = some (.slice e)) (hi : Tryd.prog.info? e = some i)
    (v : Value) (n c : Nat) (xs : List Value) (hown : w.ownsRow base e size v n xs) :
    (Builtin.append_ #[t, t] ty #[v, .slice none 0 c]).run Tryd.prog w = .ok v w := by
  rcases hown.2 with ⟨rfl, rfl⟩ | ⟨g, cap, cur, rfl, _, _, hnc, _⟩
  · simp [Builtin.append_, run_underlying ht, sizeOf, typeInfo, hi, Builtin.lenOf, Builtin.firstCells]
  · simp [Builtin.append_, run_underlying ht, sizeOf, typeInfo, hi, Builtin.lenOf, Builtin.firstCells, hnc, storeCells]
section
variable {B : Nat} {W W' : World} {v : Value}
theorem own_typ {e : TypeId} {sz n : Nat} {xs : List Value} (h : W.ownsRow B e sz v n xs) {k : Nat} (hk : v.ownBlock = some k) : B ≤ k ∧ ∃ cur, W.heap[k]? = some (.cells cur e (0, 0)) := by
  rcases h.2 with ⟨h1, -⟩ | ⟨g, cap, cur, h1, h2, h3, -⟩
  · rw [h1] at hk; cases hk
  · rw [h1] at hk
    obtain rfl : g = k := by simpa [Value.ownBlock] using hk
    exact ⟨h2, cur, h3⟩
theorem own_src {e : TypeId} {sz n : Nat} {xs : List Value} (h : W.ownsRow B e sz v n xs) : (v = .slice none 0 0 ∧ n = 0) ∨ ∃ g cap, v = .slice (some ⟨g, 0, none⟩) n cap ∧ ∀ (j : Nat) u, xs[j]? = some u → W.cell? ⟨g, j, none⟩ = some u := by
  rcases h.2 with h1 | ⟨g, cap, cur, h1, h2, h3, h4⟩
  · exact .inl h1
  · refine .inr ⟨g, cap, h1, fun j u hu => ?_⟩
    subst h1
    have hj := (List.getElem?_eq_some_iff.1 hu).1
    rw [World.ownsRow.cellAt h j (by rw [← h.1]; exact hj)]
    exact hu
theorem Eo.kept {l : List En} {T : Nat → Prop} (h : Eo B W v l) (hs : St T W W') (hn : ∀ k, v.ownBlock = some k → ¬ T k) : Eo B W' v l := ⟨own_st h.1 hs hn, h.2⟩
theorem Eo.later {l : List En} (h : Eo B W v l) (hb : Below W.heap.size W W') : Eo B W' v l := h.kept (T := fun _ => False) (St.of_below hb) fun _ _ q => q
theorem Uo.kept {l : List Ue} {T : Nat → Prop} (h : Uo B W v l) (hs : St T W W') (hn : ∀ k, v.ownBlock = some k → ¬ T k) : Uo B W' v l := ⟨own_st h.1 hs hn, h.2⟩
theorem Uo.later {l : List Ue} (h : Uo B W v l) (hb : Below W.heap.size W W') : Uo B W' v l := h.kept (T := fun _ => False) (St.of_below hb) fun _ _ q => q
theorem Eo.slice {l : List En} (h : Eo B W v l) : ∃ a c, v = .slice a l.length c := own_slice h.1
theorem Uo.slice {l : List Ue} (h : Uo B W v l) : ∃ a c, v = .slice a l.length c := own_slice h.1
theorem Eo.lower {B' : Nat} {l : List En} (h : Eo B W v l) (hB : B' ≤ B) : Eo B' W v l := ⟨own_lower h.1 hB, h.2⟩
theorem Uo.lower {B' : Nat} {l : List Ue} (h : Uo B W v l) (hB : B' ≤ B) : Uo B' W v l := ⟨own_lower h.1 hB, h.2⟩
/-- The twelve cells of an entry. -/
theorem Eo.at {a : Option Addr} {n c : Nat} {l : List En} (h : Eo B W (.slice a n c) l) (hn : l.length = n) {j : Nat} {e : En} (hj : l[j]? = some e) : ∃ g, a = some ⟨g, 0, none⟩ ∧ ∀ i, i < 12 → W.cell? ⟨g, j * 12 + i, none⟩ = e.arr[i]? := by
  subst hn
  have hlt := (List.getElem?_eq_some_iff.1 hj).1
  obtain ⟨g, rfl⟩ : ∃ g, a = some ⟨g, 0, none⟩ := by
    obtain ⟨g, cap', q, -⟩ := World.ownsRow.form h.1 (by omega : 0 < l.length)
    simp only [Value.slice.injEq, true_and] at q
    exact ⟨g, q.1⟩
  exact ⟨g, rfl, fun i hi => (World.ownsRow.cellAt h.1 (j * 12 + i) (by omega)).trans (eCells_at l j e hj i hi)⟩
/-- append of a whole row onto an empty one. -/
theorem run_cp {t e : TypeId} {i0 : TypeInfo} {z : Value} {sz bytes : Nat} (ht : Tryd.prog.underlying t = some (.slice e)) (hi : Tryd.prog.info? e = some i0) (hz0 : i0.zero = some z) (hz1 : i0.size = sz) (hz2 : i0.bytes = bytes) (hzs : z.cells.size = sz) (hsz : 0 < sz) (hby : bytes ≤ 1000) {n : Nat} {xs : List Value} (h : W.ownsRow B e sz v n xs) (h1 : ∀ u ∈ xs, u.oneCell' = true) (hn : n ≤ 100000) (ty : TypeId) :
    ∃ v' w', (Builtin.append_ #[t, t] ty #[.slice (some ⟨W.heap.size, 0, none⟩) 0 0, v]).run Tryd.prog (W.alloc (.cells #[] e)) = .ok v' w' ∧ w'.ownsRow W.heap.size e sz v' n xs ∧ Below W.heap.size W w' := by
  have O : (W.alloc (.cells #[] e)).ownsRow W.heap.size e sz (.slice (some ⟨W.heap.size, 0, none⟩) 0 0) 0 [] := World.ownsRow_lit W #[] 0 (Nat.le_refl _) (by unfold maxLen; omega) (by simp)
  have hb := bAl W (.cells #[] e)
  have hz : W.heap.size ≤ (W.alloc (.cells #[] e)).heap.size := by simp
  rcases own_src h with ⟨rfl, rfl⟩ | ⟨g, cap, rfl, hcs⟩
  · obtain rfl : xs = [] := List.eq_nil_of_length_eq_zero (by simpa using h.1)
    exact ⟨_, _, run_append_nothing W.heap.size t ty e i0 sz ht hi _ 0 0 [] O, O, hb⟩
  · have hbn : n * bytes ≤ 100000 * 1000 := Nat.mul_le_mul hn hby
    obtain ⟨v', w', hr, h8, h9, -, -⟩ := run_append_own_at (P := Tryd.prog) (W.alloc (.cells #[] e)) W.heap.size t ty e i0 z sz bytes ht hi hz0 hz1 hz2 hzs hsz _ 0 [] O ⟨g, 0, none⟩ n cap xs h.1 (fun j u hu => by
      have : (⟨g, 0, none⟩ : Addr).add j = ⟨g, j, none⟩ := by rw [Addr.add_lit, Nat.zero_add]
      rw [this]
      exact seen hb (Nat.le_refl _) (hcs j u hu)) h1 (by unfold maxLen; omega) (by rw [Nat.zero_add]; omega) hz
    rw [Nat.zero_add, List.nil_append] at h8
    exact ⟨v', w', hr, h8, hb.trans ((Below.refl _ _).grown h9 hz (fun k hk => own_block O hk))⟩
end
end Go.Proofs.YtnbgjbdbbmpoaaaDoor.Jo
