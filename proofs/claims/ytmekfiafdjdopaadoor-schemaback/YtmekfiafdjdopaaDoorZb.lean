/- SchemaBack: what sets make of numbers, plainly. -/
import Derived.Test.YtmekfiafdjdopaaDoorZa
import Derived.Test.YtmekfiafdjdopaaDoorYb
namespace Go.Proofs.YtmekfiafdjdopaaDoor
open Go.RowKit Go.Shelf
/-- A set with a number more. -/
def orN (m : Nat) (n : Int) : Nat := if 0 ≤ n ∧ n < 32 then m ||| 2 ^ n.toNat else m
theorem orN_lt (m : Nat) (n : Int) (h : m < 4294967296) : orN m n < 4294967296 := by
  unfold orN
  split
  · exact or_lt m n.toNat h (by omega)
  · exact h
theorem orI_orN (m : Nat) (n : Int) (h : m < 4294967296) : orI (m : Int) n = (orN m n : Int) := by
  unfold orN
  by_cases hn : 0 ≤ n ∧ n < 32
  · rw [if_pos hn]
    obtain ⟨k, rfl⟩ := Int.eq_ofNat_of_zero_le hn.1
    rw [Int.toNat_natCast]
    exact orI_nat m k h (by omega)
  · rw [if_neg hn]
    show bits .or .u32 (m : Int) (bitI n) = _
    rw [bitI_out n hn]
    have e := (bits_nat .u32 32 (by decide) (fun n h0 h1 => by rw [IntKind.wrap_u32]; omega) m 0 (by omega) (by decide)).2
    rw [Nat.or_zero] at e
    exact e
theorem orN_bit (m : Nat) (n : Int) (j : Nat) (hj : j < 32) : (orN m n).testBit j = (m.testBit j || decide (n = (j : Int))) := by
  unfold orN
  by_cases hn : 0 ≤ n ∧ n < 32
  · rw [if_pos hn, Nat.testBit_or, Nat.testBit_two_pow]
    congr 1
    rw [decide_eq_decide]; omega
  · rw [if_neg hn, decide_eq_false (by omega), Bool.or_false]
/-- The set that numbers make of a set. -/
def foldN (m : Nat) (ns : List Int) : Nat := ns.foldl orN m
theorem foldN_lt : ∀ (ns : List Int) (m : Nat), m < 4294967296 → foldN m ns < 4294967296
  | [], _, h => h
  | n :: ns, m, h => foldN_lt ns (orN m n) (orN_lt m n h)
theorem foldI : ∀ (ns : List Int) (m : Nat), m < 4294967296 → ns.foldl orI (m : Int) = (foldN m ns : Int)
  | [], _, _ => rfl
  | n :: ns, m, h => by
    show ns.foldl orI (orI (m : Int) n) = _
    rw [orI_orN m n h]
    exact foldI ns (orN m n) (orN_lt m n h)
theorem ofM_nat (ns : List Int) : ofM ns = (foldN 0 ns : Int) := foldI ns 0 (by decide)
theorem foldN_bit (j : Nat) (hj : j < 32) : ∀ (ns : List Int) (m : Nat), (foldN m ns).testBit j = (m.testBit j || ns.any fun n => decide (n = (j : Int)))
  | [], m => by simp [foldN]
  | n :: ns, m => by
    show (foldN (orN m n) ns).testBit j = _
    rw [foldN_bit j hj ns, orN_bit m n j hj, List.any_cons, Bool.or_assoc]
theorem high_bit (m : Nat) (h : m < 4294967296) (j : Nat) (hj : ¬ j < 32) : m.testBit j = false :=
  Nat.testBit_lt_two_pow (Nat.lt_of_lt_of_le h (Nat.pow_le_pow_right (Nat.zero_lt_succ 1) (show 32 ≤ j by omega)))
theorem foldN_eq (m : Nat) (hm : m < 4294967296) (ns : List Int) (h : ∀ j : Nat, j < 32 → (m.testBit j = true ↔ (j : Int) ∈ ns)) : foldN 0 ns = m := by
  refine Nat.eq_of_testBit_eq fun j => ?_
  by_cases hj : j < 32
  · rw [foldN_bit j hj, Nat.zero_testBit, Bool.false_or, Bool.eq_iff_iff, List.any_eq_true, h j hj]
    constructor
    · rintro ⟨n, hn, he⟩
      rw [← of_decide_eq_true he]; exact hn
    · intro hm
      exact ⟨_, hm, by simp⟩
  · rw [high_bit _ (foldN_lt _ _ (by decide)) j hj, high_bit _ hm j hj]
theorem mem_lst (m : Nat) (x : Int) : ∀ k, x ∈ lst k m ↔ ∃ j : Nat, x = (j : Int) ∧ j < k ∧ m.testBit j = true
  | 0 => by simp [lst]
  | k + 1 => by
    have ih := mem_lst m x k
    have e : (m.testBit k = true) ↔ m / 2 ^ k % 2 = 1 := by rw [Nat.testBit_eq_decide_div_mod_eq]; simp
    unfold lst
    split
    · rename_i hc
      rw [List.mem_append, ih, List.mem_singleton]
      constructor
      · rintro (⟨j, h1, h2, h3⟩ | rfl)
        · exact ⟨j, h1, by omega, h3⟩
        · exact ⟨k, rfl, by omega, e.2 hc⟩
      · rintro ⟨j, h1, h2, h3⟩
        by_cases hj : j = k
        · right; rw [h1, hj]
        · left; exact ⟨j, h1, by omega, h3⟩
    · rename_i hc
      rw [ih]
      constructor
      · rintro ⟨j, h1, h2, h3⟩
        exact ⟨j, h1, by omega, h3⟩
      · rintro ⟨j, h1, h2, h3⟩
        by_cases hj : j = k
        · subst hj; exact absurd (e.1 h3) hc
        · exact ⟨j, h1, by omega, h3⟩
theorem of_lst (m : Nat) (hm : m < 4294967296) : ofM (lst 32 m) = (m : Int) := by
  rw [ofM_nat, foldN_eq m hm (lst 32 m) fun j hj => ?_]
  rw [mem_lst]
  constructor
  · intro h; exact ⟨j, rfl, hj, h⟩
  · rintro ⟨i, h1, _, h3⟩
    obtain rfl : j = i := by omega
    exact h3
theorem lst_rise (m : Nat) : ∀ k, List.Pairwise (· < ·) (lst k m)
  | 0 => List.Pairwise.nil
  | k + 1 => by
    unfold lst
    split
    · rw [List.pairwise_append]
      refine ⟨lst_rise m k, by simp, ?_⟩
      intro a ha b hb
      obtain ⟨j, rfl, h2, _⟩ := (mem_lst m a k).1 ha
      rw [List.mem_singleton.1 hb]
      omega
    · exact lst_rise m k
theorem lst_at (m : Nat) {i : Nat} {x : Int} (h : (lst 32 m)[i]? = some x) : inB m x = true ∧ ∀ z, 0 < i → (lst 32 m)[i - 1]? = some z → z < x := by
  constructor
  · obtain ⟨j, rfl, h2, h3⟩ := (mem_lst m x 32).1 (List.mem_of_getElem? h)
    rw [inB_in m j h2, ← Nat.testBit_eq_decide_div_mod_eq]; exact h3
  · intro z hi hz
    obtain ⟨l1, e1⟩ := List.getElem?_eq_some_iff.1 h
    obtain ⟨l2, e2⟩ := List.getElem?_eq_some_iff.1 hz
    have := (List.pairwise_iff_getElem.1 (lst_rise m 32)) (i - 1) i l2 l1 (by omega)
    rw [e1, e2] at this
    exact this
/-- Two lists with the same numbers make the same set. -/
theorem ofM_same (a b : List Int) (h : ∀ x, x ∈ a ↔ x ∈ b) : ofM a = ofM b := by
  rw [ofM_nat, ofM_nat]
  congr 1
  refine Nat.eq_of_testBit_eq fun j => ?_
  by_cases hj : j < 32
  · rw [foldN_bit j hj, foldN_bit j hj, Bool.eq_iff_iff]
    simp only [Nat.zero_testBit, Bool.false_or, List.any_eq_true]
    constructor
    · rintro ⟨n, hn, he⟩; exact ⟨n, (h n).1 hn, he⟩
    · rintro ⟨n, hn, he⟩; exact ⟨n, (h n).2 hn, he⟩
  · rw [high_bit _ (foldN_lt _ _ (by decide)) j hj, high_bit _ (foldN_lt _ _ (by decide)) j hj]
/-- Each number of a list, twice, the last first, as far as k of them are gone. -/
def twice : List Int → List Int
  | [] => []
  | n :: ns => twice ns ++ [n, n]
theorem mem_twice (x : Int) : ∀ ns, x ∈ twice ns ↔ x ∈ ns
  | [] => Iff.rfl
  | n :: ns => by simp [twice, mem_twice x ns, or_comm]
theorem twice_len : ∀ ns, (twice ns).length = 2 * ns.length
  | [] => rfl
  | n :: ns => by simp [twice, twice_len ns]; omega
theorem ofM_rev (ns : List Int) : ofM ns.reverse = ofM ns := ofM_same _ _ fun x => by simp
theorem ofM_twice (ns : List Int) : ofM (twice ns) = ofM ns := ofM_same _ _ fun x => mem_twice x ns
theorem of_has (ns : List Int) (n : Int) (h : n ∈ ns) : (bits .and .u32 (ofM ns) (bitI n) != 0) = decide (0 ≤ n ∧ n < 32) := by
  rw [ofM_nat, has_in _ (foldN_lt _ _ (by decide))]
  by_cases hn : 0 ≤ n ∧ n < 32
  · obtain ⟨k, rfl⟩ := Int.eq_ofNat_of_zero_le hn.1
    rw [inB_in _ _ (by omega), ← Nat.testBit_eq_decide_div_mod_eq, foldN_bit k (by omega), decide_eq_true hn, Bool.or_eq_true, List.any_eq_true]
    exact .inr ⟨_, h, by simp⟩
  · rw [inB_out _ _ hn, decide_eq_false hn]
end Go.Proofs.YtmekfiafdjdopaaDoor
