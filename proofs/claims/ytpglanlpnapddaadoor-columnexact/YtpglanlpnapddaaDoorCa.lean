/- Rows of a column, plainly: parts, their cells, the map of their frames. -/
import Derived.Test.YtpglanlpnapddaaDoorKp
import Derived.Maps.OwnSet
import Derived.Laws.CopyRow
namespace Go.Proofs.YtpglanlpnapddaaDoor
open Go.RowKit Go.Shelf Go.Maps
theorem Tryd.laidOut : laidOutB Tryd.prog = true := by kernel_rfl
theorem keyed3 : Keyed Tryd.prog 3 := int_keyed Tryd.underlying3
theorem zero3 (w : World) : (zeroValue 3).run Tryd.prog w = .ok (.int .i64 0) w := by kernel_rfl
def I64 (i : Int) : Prop := (Lit.int .i64 i).wf = true
theorem key_int (i : Int) (h : I64 i) : keyOf Tryd.prog 3 (.int .i64 i) = some (.int .i64 i) := keyOf_int_mk Tryd.underlying3 h
theorem I64_mid {n : Int} (h0 : -1000000 ≤ n) (h1 : n ≤ 1000000) : I64 n := by
  unfold I64 Lit.wf
  simp [IntKind.min, IntKind.max, IntKind.signed, IntKind.bits]
  omega
def vI (n : Int) : Value := .int .i64 n
/-- A part: its four cells, its frame. -/
structure Pt where
  a : Int
  b : Int
  c : Int
  d : Int
  t : Int
def Pt.cs (p : Pt) : List Int := [p.a, p.b, p.c, p.d]
/-- The cells that a row of the width w keeps. -/
def Pt.row (w : Nat) (p : Pt) : List Value := (p.cs.take w).map vI
/-- Behind the width all is 0. -/
def Pt.fitB (w : Nat) (p : Pt) : Bool := (p.cs.drop w).all (· == 0)
def Pt.val (comp : Int) (p : Pt) : Value := .agg #[.int .i64 comp, .int .i64 p.a, .int .i64 p.b, .int .i64 p.c, .int .i64 p.d, .int .i64 p.t]
def Pt.arr (comp : Int) (p : Pt) : Array Value := #[.int .i64 comp, .int .i64 p.a, .int .i64 p.b, .int .i64 p.c, .int .i64 p.d, .int .i64 p.t]
/-- A cell is another one, and the frame. -/
def Pt.put (p : Pt) (j : Nat) (x f : Int) : Pt := match j with
  | 0 => ⟨x, p.b, p.c, p.d, f⟩
  | 1 => ⟨p.a, x, p.c, p.d, f⟩
  | 2 => ⟨p.a, p.b, x, p.d, f⟩
  | _ => ⟨p.a, p.b, p.c, x, f⟩
theorem Pt.row_len {w : Nat} (p : Pt) (h : w ≤ 4) : (p.row w).length = w := by simp [Pt.row, Pt.cs]; omega
theorem four {w : Nat} (h0 : 1 ≤ w) (h : w ≤ 4) : w = 1 ∨ w = 2 ∨ w = 3 ∨ w = 4 := by omega
theorem Pt.put_row {w : Nat} (p : Pt) (h : w ≤ 4) {j : Nat} (hj : j < w) (x f : Int) : (p.put j x f).row w = (p.row w).set j (vI x) := by
  rcases four (by omega) h with rfl | rfl | rfl | rfl
  all_goals (match j, hj with
    | 0, _ => rfl
    | 1, _ => rfl
    | 2, _ => rfl
    | 3, _ => rfl)
theorem Pt.put_fit {w : Nat} (p : Pt) (h : w ≤ 4) {j : Nat} (hj : j < w) (x f : Int) : (p.put j x f).fitB w = p.fitB w := by
  rcases four (by omega) h with rfl | rfl | rfl | rfl
  all_goals (match j, hj with
    | 0, _ => first | rfl | omega
    | 1, _ => first | rfl | omega
    | 2, _ => first | rfl | omega
    | 3, _ => first | rfl | omega)
theorem Pt.put_t (p : Pt) (j : Nat) (x f : Int) : (p.put j x f).t = f := by
  unfold Pt.put; split <;> rfl
/-- A part that is nothing but its frame takes a row's cells in. -/
theorem Pt.filled {w : Nat} (p : Pt) (h0 : 1 ≤ w) (h : w ≤ 4) (hf : p.fitB w = true) (comp : Int) :
    ((#[.int .i64 comp, .int .i64 0, .int .i64 0, .int .i64 0, .int .i64 0, .int .i64 p.t] : Array Value).toList.take 1 ++ p.row w ++ (#[.int .i64 comp, .int .i64 0, .int .i64 0, .int .i64 0, .int .i64 0, .int .i64 p.t] : Array Value).toList.drop (1 + (p.row w).length)).toArray = p.arr comp := by
  obtain ⟨a, b, c, d, t⟩ := p
  rcases four h0 h with rfl | rfl | rfl | rfl
  all_goals
    simp [Pt.fitB, Pt.cs] at hf
    simp [Pt.row, Pt.cs, Pt.arr, vI, hf]
/-- Rows, close together. -/
def flat (w : Nat) (l : List Pt) : List Value := l.flatMap (Pt.row w)
theorem flat_snoc (w : Nat) (l : List Pt) (p : Pt) : flat w (l ++ [p]) = flat w l ++ p.row w := by simp [flat]
theorem flat_cons (w : Nat) (l : List Pt) (p : Pt) : flat w (p :: l) = p.row w ++ flat w l := by simp [flat]
theorem flat_len {w : Nat} (h : w ≤ 4) (l : List Pt) : (flat w l).length = l.length * w := by
  induction l with
  | nil => simp [flat]
  | cons p l ih => rw [flat_cons, List.length_append, ih, p.row_len h, List.length_cons, Nat.succ_mul]; omega
theorem flat_take {w : Nat} (h : w ≤ 4) (l : List Pt) (m : Nat) (hm : m ≤ l.length) : (flat w l).take (m * w) = flat w (l.take m) := by
  induction l generalizing m with
  | nil => simp at hm; subst hm; simp [flat]
  | cons p l ih =>
    cases m with
    | zero => simp [flat]
    | succ m =>
      rw [List.take_succ_cons, flat_cons, flat_cons, Nat.succ_mul, show m * w + w = (p.row w).length + m * w by rw [p.row_len h]; omega, List.take_length_add_append, ih m (by simpa using hm)]
theorem flat_drop {w : Nat} (h : w ≤ 4) (l : List Pt) (m : Nat) (hm : m ≤ l.length) : (flat w l).drop (m * w) = flat w (l.drop m) := by
  induction l generalizing m with
  | nil => simp at hm; subst hm; simp [flat]
  | cons p l ih =>
    cases m with
    | zero => simp [flat]
    | succ m =>
      rw [List.drop_succ_cons, flat_cons, Nat.succ_mul, show m * w + w = (p.row w).length + m * w by rw [p.row_len h]; omega, List.drop_length_add_append, ih m (by simpa using hm)]
theorem flat_at {w : Nat} (h : w ≤ 4) {l : List Pt} {n : Nat} {p : Pt} (hn : l[n]? = some p) {j : Nat} (hj : j < w) : (flat w l)[n * w + j]? = (p.row w)[j]? := by
  obtain ⟨hl, rfl⟩ := List.getElem?_eq_some_iff.1 hn
  have e := flat_drop h l n (by omega)
  rw [← List.getElem?_drop, e, List.drop_eq_getElem_cons hl, flat_cons, List.getElem?_append_left (by rw [Pt.row_len _ h]; exact hj)]
theorem flat_splice {w : Nat} (h : w ≤ 4) {l : List Pt} {n : Nat} (hn : n < l.length) (p : Pt) : (flat w l).take (n * w) ++ p.row w ++ (flat w l).drop (n * w + w) = flat w (l.set n p) := by
  rw [flat_take h l n (by omega), show n * w + w = (n + 1) * w by rw [Nat.succ_mul], flat_drop h l (n + 1) (by omega), ← flat_snoc, List.set_eq_take_append_cons_drop, if_pos hn]
  simp [flat]
theorem flat_set {w : Nat} (h : w ≤ 4) {l : List Pt} {n : Nat} {p : Pt} (hn : l[n]? = some p) {j : Nat} (hj : j < w) (x f : Int) : (flat w l).set (n * w + j) (vI x) = flat w (l.set n (p.put j x f)) := by
  have hl := (List.getElem?_eq_some_iff.1 hn).1
  rw [← flat_splice h hl, Pt.put_row p h hj]
  apply List.ext_getElem?
  intro m
  have hlen := flat_len h l
  have hnl : n * w + w ≤ l.length * w := by rw [← Nat.succ_mul]; exact Nat.mul_le_mul_right w hl
  have hr := p.row_len h
  rw [List.getElem?_set]
  by_cases h1 : m < n * w
  · rw [if_neg (by omega), List.getElem?_append_left (by simp; omega), List.getElem?_append_left (by simp; omega), List.getElem?_take_of_lt h1]
  · by_cases h2 : m < n * w + w
    · rw [List.getElem?_append_left (by simp; omega), List.getElem?_append_right (by simp; omega)]
      have e : m - ((flat w l).take (n * w)).length = m - n * w := by simp; omega
      rw [e, List.getElem?_set]
      by_cases h3 : n * w + j = m
      · rw [if_pos h3, if_pos (by omega), if_pos (by omega), if_pos (by omega)]
      · rw [if_neg h3, if_neg (by omega)]
        have := flat_at h hn (j := m - n * w) (by omega)
        rw [show n * w + (m - n * w) = m by omega] at this
        exact this
    · rw [if_neg (by omega), List.getElem?_append_right (by simp; omega)]
      have e : m - ((flat w l).take (n * w) ++ (p.row w).set j (vI x)).length = m - (n * w + w) := by simp; omega
      rw [e, List.getElem?_drop, show n * w + w + (m - (n * w + w)) = m by omega]
theorem row_one (w : Nat) (p : Pt) : ∀ u ∈ p.row w, u.oneCell' = true := by
  intro u hu
  simp only [Pt.row, List.mem_map] at hu
  obtain ⟨x, _, rfl⟩ := hu
  rfl
theorem flat_one (w : Nat) (l : List Pt) : ∀ u ∈ flat w l, u.oneCell' = true := by
  intro u hu
  simp only [flat, List.mem_flatMap] at hu
  obtain ⟨p, _, hp⟩ := hu
  exact row_one w p u hp
/-- The row of a number, if there is one. -/
def rowAt (l : List Pt) (i : Int) : Option Pt := if 0 ≤ i then l[i.toNat]? else none
theorem rowAt_nat (l : List Pt) (n : Nat) : rowAt l (n : Int) = l[n]? := by simp [rowAt]
theorem rowAt_some {l : List Pt} {i : Int} {p : Pt} (h : rowAt l i = some p) : ∃ n : Nat, i = (n : Int) ∧ n < l.length ∧ l[n]? = some p := by
  unfold rowAt at h
  split at h
  · exact ⟨i.toNat, by omega, (List.getElem?_eq_some_iff.1 h).1, h⟩
  · cases h
theorem rowAt_none {l : List Pt} {i : Int} (h : rowAt l i = none) : i < 0 ∨ (l.length : Int) ≤ i := by
  unfold rowAt at h
  split at h
  · right
    have := List.getElem?_eq_none_iff.1 h
    omega
  · left; omega
def tickAt (l : List Pt) (i : Int) : Int := match rowAt l i with | some p => p.t | none => 0
/-- What the map of the frames says. -/
def Holds (D : DataW Unit) (l : List Pt) : Prop :=
  (∀ i, I64 i → Maps.has D (.int .i64 i) = (rowAt l i).isSome ∧ D.atKey (.int .i64 i) (.lit (.int .i64 0)) = .lit (.int .i64 (tickAt l i))) ∧ Maps.size D = l.length
theorem isKeyI (i : Int) : WideAt.IsKeyLit (.int .i64 i) := trivial
theorem key_ne {i j : Int} (h : i ≠ j) : (Lit.int .i64 i) ≠ .int .i64 j := fun e => h (by simpa using e)
theorem rowAt_snoc (l : List Pt) (p : Pt) (i : Int) : rowAt (l ++ [p]) i = if i = (l.length : Int) then some p else rowAt l i := by
  unfold rowAt
  by_cases h0 : 0 ≤ i
  · rw [if_pos h0, if_pos h0]
    by_cases h1 : i = (l.length : Int)
    · rw [if_pos h1]; subst h1; simp
    · rw [if_neg h1, List.getElem?_append]
      split
      · rfl
      · rename_i h2
        rw [List.getElem?_eq_none (by simp; omega), List.getElem?_eq_none (by omega)]
  · rw [if_neg h0, if_neg h0, if_neg (by omega)]
theorem rowAt_set (l : List Pt) (n : Nat) (p : Pt) (h : n < l.length) (i : Int) : rowAt (l.set n p) i = if i = (n : Int) then some p else rowAt l i := by
  unfold rowAt
  by_cases h0 : 0 ≤ i
  · rw [if_pos h0, if_pos h0]
    by_cases h1 : i = (n : Int)
    · rw [if_pos h1]; subst h1; simp [h]
    · rw [if_neg h1, List.getElem?_set_ne (by omega)]
  · rw [if_neg h0, if_neg h0, if_neg (by omega)]
theorem rowAt_drop (l : List Pt) (i : Int) : rowAt l.dropLast i = if i = (l.length : Int) - 1 then none else rowAt l i := by
  unfold rowAt
  by_cases h0 : 0 ≤ i
  · rw [if_pos h0, if_pos h0]
    by_cases h1 : i = (l.length : Int) - 1
    · rw [if_pos h1]; exact List.getElem?_eq_none (by simp; omega)
    · rw [if_neg h1, List.getElem?_dropLast]
      split
      · rfl
      · exact (List.getElem?_eq_none (by omega)).symm
  · rw [if_neg h0, if_neg h0]; split <;> rfl
theorem Holds.snoc {D : DataW Unit} {l : List Pt} (hD : Tidy D) (h : Holds D l) (p : Pt) (hn : I64 (l.length : Int)) : Holds (D.put (.int .i64 (l.length : Int)) (.lit (.int .i64 p.t))) (l ++ [p]) := by
  refine ⟨fun i hi => ?_, ?_⟩
  · unfold tickAt
    rw [rowAt_snoc]
    by_cases e : i = (l.length : Int)
    · subst e
      rw [if_pos rfl]
      exact ⟨Maps.has_put_same hD.isMap (isKeyI _) _, Maps.atKey_put_same hD.isMap (isKeyI _) _ _⟩
    · rw [if_neg e, Maps.has_put_other (key_ne e), Maps.atKey_put_other (key_ne e)]
      exact h.1 i hi
  · rw [Maps.size_put hD, (h.1 _ hn).1, rowAt_nat, h.2]
    simp
theorem Holds.set {D : DataW Unit} {l : List Pt} (hD : Tidy D) (h : Holds D l) {n : Nat} (hl : n < l.length) (p : Pt) (hn : I64 (n : Int)) : Holds (D.put (.int .i64 (n : Int)) (.lit (.int .i64 p.t))) (l.set n p) := by
  refine ⟨fun i hi => ?_, ?_⟩
  · unfold tickAt
    rw [rowAt_set l n p hl]
    by_cases e : i = (n : Int)
    · subst e
      rw [if_pos rfl]
      exact ⟨Maps.has_put_same hD.isMap (isKeyI _) _, Maps.atKey_put_same hD.isMap (isKeyI _) _ _⟩
    · rw [if_neg e, Maps.has_put_other (key_ne e), Maps.atKey_put_other (key_ne e)]
      exact h.1 i hi
  · rw [Maps.size_put hD, (h.1 _ hn).1, rowAt_nat, h.2, List.getElem?_eq_getElem hl]
    simp
theorem Holds.drop {D : DataW Unit} {l : List Pt} (hD : Tidy D) (h : Holds D l) (h0 : 0 < l.length) (hn : I64 ((l.length : Int) - 1)) : Holds (D.del (.int .i64 ((l.length : Int) - 1))) l.dropLast := by
  refine ⟨fun i hi => ?_, ?_⟩
  · unfold tickAt
    rw [rowAt_drop]
    by_cases e : i = (l.length : Int) - 1
    · subst e
      rw [if_pos rfl]
      exact ⟨Maps.has_del_same, Maps.atKey_del_same _⟩
    · rw [if_neg e, Maps.has_del_other (key_ne e), Maps.atKey_del_other (key_ne e)]
      exact h.1 i hi
  · have := Maps.size_del (k := .int .i64 ((l.length : Int) - 1)) hD
    have e : rowAt l ((l.length : Int) - 1) = l[l.length - 1]? := by
      rw [← rowAt_nat]; congr 1; omega
    rw [(h.1 _ hn).1, e, List.getElem?_eq_getElem (by omega), h.2] at this
    simp at this ⊢
    omega
/-- A map bears no more than what it reads as. -/
theorem own_size {W : World} {mb n : Nat} {D : DataW Unit} (h : W.ownsMap Tryd.prog 3 (plainElem Tryd.prog 3) mb n D) {m : Nat} (hm : Maps.size D = m) : W.ownsMap Tryd.prog 3 (plainElem Tryd.prog 3) mb m D := by
  obtain ⟨es, clock, hb, F, _, rfl⟩ := h
  refine ⟨es, clock, hb, F, ?_, rfl⟩
  rw [← hm]
  simp [Maps.size, length_sorted]
theorem look_two {W : World} {mb n : Nat} {D : DataW Unit} {l : List Pt} (h : W.ownsMap Tryd.prog 3 (plainElem Tryd.prog 3) mb n D) (hH : Holds D l) (i : Int) (hi : I64 i) :
    (Instr.lookup 66 (.map (some mb)) (.int .i64 i) true).run Tryd.prog W = .ok (.tuple #[.int .i64 (tickAt l i), .bool (rowAt l i).isSome]) W := by
  obtain ⟨v, ps, hr, hv⟩ := h.look_ok keyed3 Tryd.underlying66 (zero3 W) (plainElem_int Tryd.underlying3 (by decide)) (key_int i hi)
  obtain ⟨a, rfl, e, _⟩ := plainElem_int_inv Tryd.underlying3 hv
  rw [(hH.1 i hi).2] at e
  simp only [Prod.mk.injEq, DataW.lit.injEq, Lit.int.injEq, true_and] at e
  rw [hr, (hH.1 i hi).1, e.1]
theorem look_one {W : World} {mb n : Nat} {D : DataW Unit} {l : List Pt} (h : W.ownsMap Tryd.prog 3 (plainElem Tryd.prog 3) mb n D) (hH : Holds D l) (i : Int) (hi : I64 i) :
    (Instr.lookup 66 (.map (some mb)) (.int .i64 i) false).run Tryd.prog W = .ok (.int .i64 (tickAt l i)) W := by
  obtain ⟨c, hr, e, _⟩ := h.lookup_int keyed3 Tryd.underlying66 Tryd.underlying3 (zero3 W) (key_int i hi)
  rw [(hH.1 i hi).2] at e
  simp only [DataW.lit.injEq, Lit.int.injEq, true_and] at e
  rw [hr, e]
end Go.Proofs.YtpglanlpnapddaaDoor
