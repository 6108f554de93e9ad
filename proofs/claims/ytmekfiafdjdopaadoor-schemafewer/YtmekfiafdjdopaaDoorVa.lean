/- Less is no worse: plain facts. -/
import Derived.Test.YtmekfiafdjdopaaDoorUd
namespace Go.Proofs.YtmekfiafdjdopaaDoor
open Go.RowKit Go.Shelf
theorem seenB_mem (acc : List ByteArray) (x s : ByteArray) : s ∈ seenB acc x ↔ s ∈ acc ∨ (s = x ∧ isNm x = true) := by
  unfold seenB
  cases h1 : isNm x with
  | false => simp
  | true =>
    cases h2 : memB acc x with
    | true =>
      have := (memB_iff acc x).1 h2
      simp
      intro h; rw [h]; exact this
    | false => simp
theorem seenF_mem (s : ByteArray) : ∀ (l acc : List ByteArray), s ∈ l.foldl seenB acc ↔ s ∈ acc ∨ (s ∈ l ∧ isNm s = true)
  | [], acc => by simp
  | x :: l, acc => by
    rw [List.foldl_cons, seenF_mem s l, seenB_mem, List.mem_cons]
    constructor
    · rintro ((h | ⟨rfl, h⟩) | ⟨h1, h2⟩)
      · exact .inl h
      · exact .inr ⟨.inl rfl, h⟩
      · exact .inr ⟨.inr h1, h2⟩
    · rintro (h | ⟨rfl | h1, h2⟩)
      · exact .inl (.inl h)
      · exact .inl (.inr ⟨rfl, h2⟩)
      · exact .inr ⟨h1, h2⟩
theorem seenTo_mem (l : List ByteArray) (s : ByteArray) : s ∈ seenTo l ↔ s ∈ l ∧ isNm s = true := by
  unfold seenTo
  rw [seenF_mem]
  simp
theorem nErr_nil (acc : List ByteArray) (s : ByteArray) : nErr acc s = [] ↔ isNm s = true ∧ s ∉ acc := by
  unfold nErr
  cases h1 : isNm s with
  | false => simp
  | true =>
    cases h2 : memB acc s with
    | true => have := (memB_iff acc s).1 h2; simp [this]
    | false =>
      have : s ∉ acc := fun h => by rw [(memB_iff acc s).2 h] at h2; cases h2
      simp [this]
theorem at3_nil (l : ByteArray) (i : Nat) (p : ByteArray) (ns : List Nat) : at3 l i p ns = [] ↔ ns = [] := by simp [at3]
/-- Nothing is wrong with the first k components. -/
theorem compL_nil (cs : List Cmp) : ∀ k, k ≤ cs.length → (compL cs k = [] ↔ ∀ j c, j < k → cs[j]? = some c → leafC (seenTo ((cs.take j).map Cmp.s)) j c = [])
  | 0, _ => by simp [compL]
  | k + 1, hk => by
    obtain ⟨c, hc⟩ := at_lt cs k (by omega)
    rw [compL_next hc, List.append_eq_nil_iff, compL_nil cs k (by omega)]
    constructor
    · rintro ⟨h1, h2⟩ j d hj hd
      by_cases hjk : j = k
      · subst hjk; rw [hc] at hd; cases hd; exact h2
      · exact h1 j d (by omega) hd
    · intro h
      exact ⟨fun j d hj hd => h j d (by omega) hd, h k c (by omega) hc⟩
theorem resL_nil (cs : List Cmp) (rs : List Rsc) : ∀ k, k ≤ rs.length → (resL cs rs k = [] ↔ ∀ j r, j < k → rs[j]? = some r → nErr (seenTo (cs.map Cmp.s ++ (rs.take j).map Rsc.s)) r.s = [])
  | 0, _ => by simp [resL]
  | k + 1, hk => by
    obtain ⟨c, hc⟩ := at_lt rs k (by omega)
    rw [resL_next hc, List.append_eq_nil_iff, resL_nil cs rs k (by omega), at3_nil]
    constructor
    · rintro ⟨h1, h2⟩ j d hj hd
      by_cases hjk : j = k
      · subst hjk; rw [hc] at hd; cases hd; exact h2
      · exact h1 j d (by omega) hd
    · intro h
      exact ⟨fun j d hj hd => h j d (by omega) hd, h k c (by omega) hc⟩
theorem manyL_nil (l : ByteArray) (m n : Nat) : manyL l m n = [] ↔ n ≤ m := by
  unfold manyL
  split
  · simp; omega
  · simp; omega
theorem fewer (cs : List Cmp) (rs : List Rsc) (a b : Nat) (ha : a ≤ cs.length) (hb : b ≤ rs.length) (h : checkL cs rs = []) : checkL (cs.take a) (rs.take b) = [] := by
  have la : (cs.take a).length = a := by rw [List.length_take]; omega
  have lb : (rs.take b).length = b := by rw [List.length_take]; omega
  unfold checkL at h ⊢
  rw [List.append_eq_nil_iff, List.append_eq_nil_iff, List.append_eq_nil_iff, manyL_nil, manyL_nil, compL_nil cs _ (Nat.le_refl _), resL_nil cs rs _ (Nat.le_refl _)] at h
  rw [List.append_eq_nil_iff, List.append_eq_nil_iff, List.append_eq_nil_iff, manyL_nil, manyL_nil, compL_nil _ _ (Nat.le_refl _), resL_nil _ _ _ (Nat.le_refl _), la, lb]
  obtain ⟨⟨h1, h2⟩, h3, h4⟩ := h
  refine ⟨⟨by omega, fun j c hj hc => ?_⟩, by omega, fun j r hj hr => ?_⟩
  · rw [List.getElem?_take_of_lt hj] at hc
    rw [List.take_take, Nat.min_eq_left (by omega)]
    exact h2 j c (by omega) hc
  · rw [List.getElem?_take_of_lt hj] at hr
    have h5 := h4 j r (by omega) hr
    rw [nErr_nil] at h5 ⊢
    refine ⟨h5.1, fun hm => h5.2 ?_⟩
    rw [seenTo_mem] at hm ⊢
    refine ⟨?_, hm.2⟩
    rcases List.mem_append.1 hm.1 with hm | hm
    · obtain ⟨c, hc, e⟩ := List.mem_map.1 hm
      exact List.mem_append.2 (.inl (List.mem_map.2 ⟨c, List.mem_of_mem_take hc, e⟩))
    · rw [List.take_take, Nat.min_eq_left (by omega)] at hm
      exact List.mem_append.2 (.inr hm)
end Go.Proofs.YtmekfiafdjdopaaDoor
