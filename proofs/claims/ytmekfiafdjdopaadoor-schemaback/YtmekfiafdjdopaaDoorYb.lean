/- SchemaNames: what a schema that can be says, plainly. -/
import Derived.Test.YtmekfiafdjdopaaDoorYa
import Derived.Test.YtmekfiafdjdopaaDoorVa
import Derived.Test.YtmekfiafdjdopaaDoorXb
namespace Go.Proofs.YtmekfiafdjdopaaDoor
open Go.RowKit Go.Shelf
theorem firstI_none (s : ByteArray) : ∀ (l : List ByteArray) (k : Nat), s ∉ l → firstI s l k = -1
  | [], _, _ => rfl
  | x :: l, k, h => by
    have h1 : eqS x s = false := by
      cases hq : eqS x s with
      | false => rfl
      | true => exact absurd ((eqS_iff x s).1 hq) (fun e => h (by rw [e]; exact List.mem_cons_self))
    show (if eqS x s then (k : Int) else firstI s l (k + 1)) = -1
    rw [h1]
    exact firstI_none s l (k + 1) (fun hm => h (List.mem_cons_of_mem _ hm))
theorem firstI_at (s : ByteArray) : ∀ (l : List ByteArray) (i k : Nat), l[i]? = some s → s ∉ l.take i → firstI s l k = ((k + i : Nat) : Int)
  | [], i, k, h, _ => by simp at h
  | x :: l, 0, k, h, _ => by
    have : x = s := by simpa using h
    show (if eqS x s then (k : Int) else firstI s l (k + 1)) = _
    rw [(eqS_iff x s).2 this]
    rfl
  | x :: l, i + 1, k, h, hn => by
    have h1 : eqS x s = false := by
      cases hq : eqS x s with
      | false => rfl
      | true => exact absurd ((eqS_iff x s).1 hq) (fun e => hn (by rw [e]; exact List.mem_cons_self))
    show (if eqS x s then (k : Int) else firstI s l (k + 1)) = _
    rw [h1]
    show firstI s l (k + 1) = _
    rw [firstI_at s l i (k + 1) (by simpa using h) (fun hm => hn (List.mem_cons_of_mem _ hm))]
    congr 1; omega
/-- What a schema that can be says of its names. -/
structure GoodS (cs : List Cmp) (rs : List Rsc) : Prop where
  nc : cs.length ≤ 16
  nr : rs.length ≤ 8
  comp : ∀ (i : Nat) (c : Cmp), cs[i]? = some c → isNm c.s = true ∧ firstI c.s (cs.map Cmp.s) 0 = (i : Int) ∧ firstI c.s (rs.map Rsc.s) 0 = -1
  res : ∀ (i : Nat) (r : Rsc), rs[i]? = some r → firstI r.s (rs.map Rsc.s) 0 = (i : Int)
theorem good_of (cs : List Cmp) (rs : List Rsc) (h : checkL cs rs = []) : GoodS cs rs := by
  unfold checkL at h
  obtain ⟨h12, h34⟩ := List.append_eq_nil_iff.1 h
  obtain ⟨h1, h2⟩ := List.append_eq_nil_iff.1 h12
  obtain ⟨h3, h4⟩ := List.append_eq_nil_iff.1 h34
  have C := (compL_nil cs cs.length (Nat.le_refl _)).1 h2
  have R := (resL_nil cs rs rs.length (Nat.le_refl _)).1 h4
  have CN : ∀ i c, cs[i]? = some c → isNm c.s = true ∧ c.s ∉ (cs.take i).map Cmp.s := by
    intro i c hi
    have hl := (List.getElem?_eq_some_iff.1 hi).1
    have := C i c hl hi
    unfold leafC at this
    have := (nErr_nil _ _).1 ((at3_nil _ _ _ _).1 (List.append_eq_nil_iff.1 this).1)
    exact ⟨this.1, fun hm => this.2 ((seenTo_mem _ _).2 ⟨hm, this.1⟩)⟩
  have RN : ∀ i r, rs[i]? = some r → isNm r.s = true ∧ r.s ∉ cs.map Cmp.s ∧ r.s ∉ (rs.take i).map Rsc.s := by
    intro i r hi
    have hl := (List.getElem?_eq_some_iff.1 hi).1
    have := (nErr_nil _ _).1 (R i r hl hi)
    exact ⟨this.1, fun hm => this.2 ((seenTo_mem _ _).2 ⟨List.mem_append_left _ hm, this.1⟩), fun hm => this.2 ((seenTo_mem _ _).2 ⟨List.mem_append_right _ hm, this.1⟩)⟩
  refine ⟨(manyL_nil _ _ _).1 h1, (manyL_nil _ _ _).1 h3, ?_, ?_⟩
  · intro i c hi
    refine ⟨(CN i c hi).1, ?_, ?_⟩
    · rw [firstI_at c.s (cs.map Cmp.s) i 0 (by rw [List.getElem?_map, hi]; rfl) (by rw [← List.map_take]; exact (CN i c hi).2), Nat.zero_add]
    · refine firstI_none _ _ _ fun hm => ?_
      obtain ⟨r, hr, he⟩ := List.mem_map.1 hm
      obtain ⟨j, hj⟩ := List.mem_iff_getElem?.1 hr
      refine (RN j r hj).2.1 ?_
      rw [he]
      exact List.mem_map.2 ⟨c, List.mem_of_getElem? hi, rfl⟩
  · intro i r hi
    rw [firstI_at r.s (rs.map Rsc.s) i 0 (by rw [List.getElem?_map, hi]; rfl) (by rw [← List.map_take]; exact (RN i r hi).2.2), Nat.zero_add]
/-- A set with a number more, in numbers from 0 on. -/
theorem orI_nat (m k : Nat) (hm : m < 4294967296) (hk : k < 32) : orI (m : Int) (k : Int) = ((m ||| 2 ^ k : Nat) : Int) := by
  have hp : 2 ^ k < 4294967296 := Nat.lt_of_lt_of_le (Nat.pow_lt_pow_right (by decide) hk) (by decide)
  show bits .or .u32 (m : Int) (bitI (k : Int)) = _
  rw [bitI_in k hk]
  exact (bits_nat .u32 32 (by decide) (fun n h0 h1 => by rw [IntKind.wrap_u32]; omega) m (2 ^ k) (by omega) (by omega)).2
theorem or_lt (m k : Nat) (hm : m < 4294967296) (hk : k < 32) : m ||| 2 ^ k < 4294967296 :=
  Nat.or_lt_two_pow (n := 32) hm (Nat.pow_lt_pow_right (by decide) hk)
def kN (cs : List Cmp) (b : Bool) : Nat → Nat
  | 0 => 0
  | k + 1 => match cs[k]? with | some c => if c.rb == b then kN cs b k ||| 2 ^ k else kN cs b k | none => kN cs b k
theorem kN_lt (cs : List Cmp) (b : Bool) : ∀ k, k ≤ 32 → kN cs b k < 4294967296
  | 0, _ => by show 0 < _; decide
  | k + 1, h => by
    have ih := kN_lt cs b k (by omega)
    simp only [kN]
    split
    · split
      · exact or_lt _ _ ih (by omega)
      · exact ih
    · exact ih
theorem kindM_nat (cs : List Cmp) (b : Bool) : ∀ k, k ≤ 32 → kindM cs b k = (kN cs b k : Int)
  | 0, _ => rfl
  | k + 1, h => by
    have ih := kindM_nat cs b k (by omega)
    simp only [kindM, kN]
    cases hc : cs[k]? with
    | none => exact ih
    | some c =>
      cases hq : c.rb == b with
      | true => simp only [hq, if_true]; rw [ih, orI_nat _ _ (kN_lt cs b k (by omega)) (by omega)]
      | false => simp only [hq]; exact ih
theorem kN_bit (cs : List Cmp) (b : Bool) (j : Nat) : ∀ k, k ≤ cs.length → (kN cs b k).testBit j = (decide (j < k) && ((cs[j]?.map fun c => c.rb == b) == some true))
  | 0, _ => by simp [kN]
  | k + 1, h => by
    have ih := kN_bit cs b j k (by omega)
    obtain ⟨c, hc⟩ := at_lt cs k h
    simp only [kN, hc]
    by_cases hjk : j = k
    · subst hjk
      rw [hc]
      cases hq : c.rb == b with
      | true => simp [Nat.testBit_or, Nat.testBit_two_pow_self, hq]
      | false => simp [ih, hq]
    · have e : decide (j < k + 1) = decide (j < k) := by rw [decide_eq_decide]; omega
      rw [e, ← ih]
      split
      · rw [Nat.testBit_or, Nat.testBit_two_pow, decide_eq_false (fun h => hjk h.symm), Bool.or_false]
      · rfl
theorem kN_both (cs : List Cmp) : kN cs true cs.length &&& kN cs false cs.length = 0 := by
  refine Nat.eq_of_testBit_eq fun i => ?_
  rw [Nat.testBit_and, kN_bit _ _ _ _ (Nat.le_refl _), kN_bit _ _ _ _ (Nat.le_refl _), Nat.zero_testBit]
  cases hc : cs[i]? with
  | none => simp
  | some c => cases hq : c.rb <;> simp [hq]
theorem kN_sum (cs : List Cmp) : ∀ k, ones k (kN cs true cs.length) + ones k (kN cs false cs.length) = min k cs.length
  | 0 => by simp [ones, Lib.popAux]
  | k + 1 => by
    have ih := kN_sum cs k
    have t1 := kN_bit cs true k cs.length (Nat.le_refl _)
    have t2 := kN_bit cs false k cs.length (Nat.le_refl _)
    rw [Nat.testBit_eq_decide_div_mod_eq] at t1 t2
    rw [ones_step, ones_step]
    by_cases hk : k < cs.length
    · obtain ⟨c, hc⟩ := at_lt cs k hk
      rw [hc] at t1 t2
      cases hq : c.rb <;> simp [hk, hq] at t1 t2 <;> omega
    · simp [hk] at t1 t2
      omega
end Go.Proofs.YtmekfiafdjdopaaDoor
