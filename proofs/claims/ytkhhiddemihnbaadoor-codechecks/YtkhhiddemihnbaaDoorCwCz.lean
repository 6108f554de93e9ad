/- Words plainly: each operation has one. -/
import Derived.Test.YtkhhiddemihnbaaDoorCwBa
namespace Go.Proofs.YtkhhiddemihnbaaDoor.Cw
open Go.RowKit Go.Shelf
theorem eqS_data (a b : ByteArray) : eqS a b = (a.data.toList == b.data.toList) := by
  unfold eqS
  rw [Lib.toList_data, Lib.toList_data]
theorem words_apart : ∀ a, a < 36 → ∀ b, b < 36 → ((wordN a).data.toList == (wordN b).data.toList) = (a == b) := by decide +kernel
theorem word_eq {a b : Nat} (ha : a < 36) (hb : b < 36) : eqS (wordN a) (wordN b) = (a == b) := by rw [eqS_data, words_apart a ha b hb]
theorem found_le (s : ByteArray) : found s ≤ 36 := wix_le s 36 0
theorem found_eq {s : ByteArray} (h : found s < 36) : s = wordN (found s) := ((eqS_iff _ _).1 (found_in s 36 0 (by have h2 : wix s 36 0 < 36 := h; omega))).symm
theorem found_word {a : Nat} (ha : a < 36) : found (wordN a) = a := by
  by_cases h : found (wordN a) < 36
  · have e := found_eq h
    have h2 := word_eq ha h
    rw [← e] at h2
    have h3 : eqS (wordN a) (wordN a) = true := (eqS_iff _ _).2 rfl
    rw [h3] at h2
    exact (by simpa using h2.symm : a = found (wordN a)).symm
  · have h1 : a < wix (wordN a) 36 0 := by unfold found at h; omega
    have h2 := found_no (wordN a) 36 0 a (Nat.zero_le _) h1
    rw [(eqS_iff _ _).2 rfl] at h2
    simp at h2
/-- What the last of so many operations with the word is. -/
def lastw (s : ByteArray) : Nat → Int × Bool
  | 0 => (0, false)
  | k + 1 => if eqS (wordN k) s then ((k : Int), true) else lastw s k
theorem lastw_word {f : Nat} (hf : f < 36) : ∀ k, k ≤ 36 → lastw (wordN f) k = if f < k then ((f : Int), true) else (0, false)
  | 0, _ => by simp [lastw]
  | k + 1, h => by
    unfold lastw
    rw [word_eq (by omega) hf, lastw_word hf k (by omega)]
    by_cases e : k = f
    · subst e
      simp
    · have e1 : (k == f) = false := by simpa using e
      rw [e1]
      by_cases h2 : f < k
      · simp [h2, show f < k + 1 by omega]
      · simp [h2, show ¬ f < k + 1 by omega]
theorem lastw_none {s : ByteArray} (h : ¬ found s < 36) : ∀ k, k ≤ 36 → lastw s k = (0, false)
  | 0, _ => rfl
  | k + 1, hk => by
    unfold lastw
    have h1 : k < wix s 36 0 := by unfold found at h; omega
    rw [found_no s 36 0 k (Nat.zero_le _) h1, lastw_none h k (by omega)]
    simp
theorem lastw_all (s : ByteArray) : lastw s 36 = (foundI s, foundB s) := by
  unfold foundI foundB
  by_cases h : found s < 36
  · have e := found_eq h
    have h2 := lastw_word h 36 (Nat.le_refl _)
    rw [← e] at h2
    rw [h2]
    simp [h]
  · rw [lastw_none h 36 (Nat.le_refl _)]
    simp [h]
end Go.Proofs.YtkhhiddemihnbaaDoor.Cw
