/- CodeParts: rows of instructions that grow. -/
import Derived.Test.YtkhhiddemihnbaaDoorCwLc
namespace Go.Proofs.YtkhhiddemihnbaaDoor.Cw
open Go.RowKit Go.Shelf
theorem infoIns : (Tryd.prog.info? 59).map (fun i => (i.zero, i.size, i.bytes)) = some (some (.agg #[.int .i64 0, .int .i64 0, .int .i64 0]), 3, 24) := by kernel_rfl
def iArr (x : Ins) : List Value := [.int .i64 x.1, .int .i64 x.2.1, .int .i64 x.2.2]
def iCells (l : List Ins) : List Value := l.flatMap iArr
def Own (B : Nat) (W : World) (v : Value) (l : List Ins) : Prop := W.ownsRow B 59 3 v l.length (iCells l)
theorem iCells_at : ∀ (l : List Ins) (j : Nat) (x : Ins), l[j]? = some x → ∀ i, i < 3 → (iCells l)[j * 3 + i]? = (iArr x)[i]? := by
  intro l
  induction l with
  | nil => intro j c h; simp at h
  | cons x l ih =>
    intro j c h i hi
    have e : iCells (x :: l) = iArr x ++ iCells l := by simp [iCells]
    have hx : (iArr x).length = 3 := rfl
    cases j with
    | zero =>
      simp at h
      subst h
      rw [e, Nat.zero_mul, Nat.zero_add, List.getElem?_append_left (by omega)]
    | succ j =>
      rw [e, List.getElem?_append_right (by omega), hx, show (j + 1) * 3 + i - 3 = j * 3 + i by omega]
      exact ih j c (by simpa using h) i hi
theorem Own.row {B : Nat} {W : World} {v : Value} {l : List Ins} (h : Own B W v l) (hj : ∀ x ∈ l, J64 x.2.1) : InsRow W v l := by
  rcases h.2 with ⟨rfl, h0⟩ | ⟨g, cap, cur, rfl, -, -, hc, -, -, -⟩
  · obtain rfl := List.length_eq_zero_iff.1 h0
    exact ⟨none, 0, rfl, hj, .inl rfl⟩
  · refine ⟨_, cap, rfl, hj, .inr ⟨g, 0, rfl, fun j x hj => ?_⟩⟩
    have hj' := (List.getElem?_eq_some_iff.1 hj).1
    have A := iCells_at l j x hj
    have C : ∀ i, i < 3 → W.cell? ⟨g, j * 3 + i, none⟩ = (iArr x)[i]? := fun i hi => (World.ownsRow.cellAt h (j * 3 + i) (by omega)).trans (A i hi)
    rw [Nat.zero_add]
    exact ⟨C 0 (by decide), C 1 (by decide), C 2 (by decide)⟩
theorem Own.later {B : Nat} {W W' : World} {v : Value} {l : List Ins} (h : Own B W v l) (hb : Below W.heap.size W W') : Own B W' v l := Sc.own_more h hb
theorem own_empty {B : Nat} (W : World) (hB : B ≤ W.heap.size) : Own B (W.alloc (.cells #[] 59)) (.slice (some ⟨W.heap.size, 0, none⟩) 0 0) [] :=
  ⟨rfl, .inr ⟨W.heap.size, 0, #[], rfl, hB, heap_alloc_new W _, Nat.le_refl _, Nat.zero_le _, rfl, rfl⟩⟩
/-- append of one instruction. -/
theorem wpList_ins {ops : Array Oper} {rest : List Oper} {o : Oper} {a : Act} {Q : Exit → Act → World → Prop} (hgd : o.guard = none) (s x : Operand)
    (ho : o.op = .call { callee := .builtin .append, args := #[s, x], argTypes := #[40, 40] }) {B : Nat} {wc : World} {v : Value} {l : List Ins} {y : Ins} (hown : Own B wc v l) (hl : l.length ≤ 1000) (hB : B ≤ wc.heap.size)
    (hs : a.eval s = v) (hx : a.eval x = .slice (some ⟨wc.heap.size, 0, none⟩) 1 1)
    (h : ∀ g cap w2, Hid (Own B w2 (.slice (some ⟨g, 0, none⟩) (l.length + 1) cap) (l ++ [y]) ∧ Below B wc w2) → wpList Tryd.prog ops Q rest (a.put o.dst (.slice (some ⟨g, 0, none⟩) (l.length + 1) cap)) w2) :
    wpList Tryd.prog ops Q (o :: rest) a (wc.alloc (.cells #[.int .i64 y.1, .int .i64 y.2.1, .int .i64 y.2.2] 59)) := by
  obtain ⟨i0, hi, hz0, hz1, hz2⟩ := info_parts infoIns
  have hb : Below wc.heap.size wc (wc.alloc (.cells #[.int .i64 y.1, .int .i64 y.2.1, .int .i64 y.2.2] 59)) := bAl _ _
  have ho2 : (wc.alloc (.cells #[.int .i64 y.1, .int .i64 y.2.1, .int .i64 y.2.2] 59)).ownsRow B 59 3 v l.length (iCells l) := World.ownsRow.alloc hown _
  have hh := heap_alloc_new wc (.cells #[.int .i64 y.1, .int .i64 y.2.1, .int .i64 y.2.2] 59)
  refine wpList_append_lies _ hgd s x 40 ho B 59 i0 (.agg #[.int .i64 0, .int .i64 0, .int .i64 0]) 3 24 Tryd.underlying40 hi hz0 hz1 hz2 rfl (by decide) v l.length (iCells l) hs ho2 ⟨wc.heap.size, 0, none⟩ 1 1 (iArr y) hx rfl (fun j u hu => by
    rw [add_at]
    exact cell_blk (W := wc.alloc _) hh (by simpa [iArr] using hu)) (by intro u hu; simp [iArr] at hu; rcases hu with rfl | rfl | rfl <;> rfl) (by decide) (by unfold maxLen; omega) (by omega) (by simp; omega) (wc.heap.size + 1) (by simp) ?_
  intro g' cap w2 ow hg hat hlt
  have st : St (fun x => v.ownBlock = some x) wc w2 := (St.of_below hb).trans (St.of_grown (S := fun x => v.ownBlock = some x) hg fun k e => e) fun _ _ q => q
  refine h g' cap w2 ⟨?_, st.below (fun k hk => (World.ownsRow.lt hown k hk).1) hB⟩
  show World.ownsRow _ _ _ _ _ _ _
  have e : iCells (l ++ [y]) = iCells l ++ iArr y := by simp [iCells]
  rw [e, List.length_append]
  exact ow
theorem more_take (n : Nat) (l : List Ins) : more n l = (List.replicate n (0, 0, 0) ++ l.map (shift n)) ++ [(35, 0, 0)] := by
  unfold more
  rw [List.append_assoc]
theorem shift_next {l : List Ins} {k n : Nat} {x : Ins} (h : l[k]? = some x) : (List.replicate n (0, 0, 0) ++ (l.take k).map (shift n)) ++ [shift n x] = List.replicate n (0, 0, 0) ++ (l.take (k + 1)).map (shift n) := by
  rw [take_next h, List.map_append, List.append_assoc]
  rfl
theorem j64_small {i : Int} (h0 : 0 ≤ i) (h1 : i ≤ 1000) : J64 i := by
  unfold J64
  have e1 : IntKind.i64.min = -9223372036854775808 := by decide
  have e2 : IntKind.i64.max = 9223372036854775807 := by decide
  simp only [Lit.wf, e1, e2]
  simp
  omega
theorem more_j64 {l : List Ins} {n : Nat} (hj : Jok l) (hl : l.length ≤ 30) (hn : n ≤ 20) (h : ∀ x ∈ l, J64 x.2.1) : ∀ x ∈ more n l, J64 x.2.1 := by
  intro x hx
  unfold more at hx
  rcases List.mem_append.1 hx with hx | hx
  · obtain ⟨_, rfl⟩ := List.mem_replicate.1 hx
    exact j64_small (by decide) (by decide)
  · rcases List.mem_append.1 hx with hx | hx
    · obtain ⟨y, hy, rfl⟩ := List.mem_map.1 hx
      unfold shift
      split
      · rename_i hjy
        have := hj y hy hjy
        simp [isPl] at this
        exact j64_small (by simp only []; omega) (by simp only []; omega)
      · exact h y hy
    · simp at hx
      subst hx
      exact j64_small (by decide) (by decide)
theorem accept_yes (Ad : Nat → Addr) (w : World) (va vb v : Value) (cs : List Cmp) (rs : List Rsc) (l : List Ins) (hA : Acc cs rs l) (hO : OpsAt w) (hE : Env8 w Ad) (hC : CmpRow w va cs) (hQ : RscRow w vb rs) (hI : InsRow w v l) (hl : cs.length ≤ 1000) (hr : rs.length ≤ 1000) (hll : l.length ≤ 90) :
    Calls Tryd.prog 16 #[.agg #[va, vb], v] w fun e w' => e = .returned .nilIface ∧ Below w.heap.size w w' := by
  refine (accept_any Ad w va vb v cs rs l hO hE hC hQ hI hl hr hll).mono ?_
  rintro e w' ⟨v', rfl, hy, -, hb⟩
  obtain rfl := hy hA
  exact ⟨rfl, hb⟩
theorem accept_no (Ad : Nat → Addr) (w : World) (va vb v : Value) (cs : List Cmp) (rs : List Rsc) (l : List Ins) (hA : ¬ Acc cs rs l) (hO : OpsAt w) (hE : Env8 w Ad) (hC : CmpRow w va cs) (hQ : RscRow w vb rs) (hI : InsRow w v l) (hl : cs.length ≤ 1000) (hr : rs.length ≤ 1000) (hll : l.length ≤ 90) :
    Calls Tryd.prog 16 #[.agg #[va, vb], v] w fun e w' => ∃ t q, e = .returned (.iface t q) ∧ Below w.heap.size w w' := by
  refine (accept_any Ad w va vb v cs rs l hO hE hC hQ hI hl hr hll).mono ?_
  rintro e w' ⟨v', rfl, -, hn, hb⟩
  obtain ⟨t, q, rfl⟩ := hn hA
  exact ⟨t, q, rfl, hb⟩
theorem cum_next {W V V' : World} (h : Below W.heap.size W V) (b : Below V.heap.size V V') : Below W.heap.size W V' := h.trans (b.mono h.size)
end Go.Proofs.YtkhhiddemihnbaaDoor.Cw
