/- A component more that must be there, or must not: plainly. -/
import Derived.Test.YtfabmleiibnhdaaDoorQuQa
namespace Go.Proofs.YtfabmleiibnhdaaDoor.Qu
open Go.Proofs.YtfabmleiibnhdaaDoor.Rs (Prt)
open Go.Proofs.YtfabmleiibnhdaaDoor.At (an wi wi_bit)
theorem part_in {a b c : Nat} {fr : Int} {l : List Prt} {j : Nat} (hj : j < 32) (h : hasP l (j : Int) = true) : meansB (wi a j) b c fr l = meansB a b c fr l ∧ meansB a (wi b j) c fr l = false := by
  constructor
  · rw [Bool.eq_iff_iff, meansB_iff, meansB_iff]
    constructor
    · intro q i hi
      obtain ⟨q1, q2, q3⟩ := q i hi
      exact ⟨fun e => q1 (by rw [wi_bit, e]; rfl), q2, q3⟩
    · intro q i hi
      obtain ⟨q1, q2, q3⟩ := q i hi
      refine ⟨fun e => ?_, q2, q3⟩
      by_cases ji : j = i
      · subst ji; exact h
      · rw [wi_bit] at e
        simp [ji] at e
        exact q1 e
  · rw [Bool.eq_false_iff]
    intro q
    have := ((meansB_iff _ _ _ _ _).1 q j hj).2.1 (by rw [wi_bit]; simp)
    rw [h] at this
    cases this
theorem part_out {a b c : Nat} {fr : Int} {l : List Prt} {j : Nat} (hj : j < 32) (h : hasP l (j : Int) = false) : meansB (wi a j) b c fr l = false ∧ meansB a (wi b j) c fr l = meansB a b c fr l := by
  constructor
  · rw [Bool.eq_false_iff]
    intro q
    have := ((meansB_iff _ _ _ _ _).1 q j hj).1 (by rw [wi_bit]; simp)
    rw [h] at this
    cases this
  · rw [Bool.eq_iff_iff, meansB_iff, meansB_iff]
    constructor
    · intro q i hi
      obtain ⟨q1, q2, q3⟩ := q i hi
      exact ⟨q1, fun e => q2 (by rw [wi_bit, e]; rfl), q3⟩
    · intro q i hi
      obtain ⟨q1, q2, q3⟩ := q i hi
      refine ⟨q1, fun e => ?_, q3⟩
      by_cases ji : j = i
      · subst ji; exact h
      · rw [wi_bit] at e
        simp [ji] at e
        exact q2 e
/-- One of the two means it, never both. -/
theorem part_two {a b c : Nat} {fr : Int} {l : List Prt} {j : Nat} (hj : j < 32) : (meansB a b c fr l = (meansB (wi a j) b c fr l || meansB a (wi b j) c fr l)) ∧ (meansB (wi a j) b c fr l && meansB a (wi b j) c fr l) = false := by
  cases h : hasP l (j : Int) with
  | true => obtain ⟨e1, e2⟩ := part_in (a := a) (b := b) (c := c) (fr := fr) hj h; rw [e1, e2]; simp
  | false => obtain ⟨e1, e2⟩ := part_out (a := a) (b := b) (c := c) (fr := fr) hj h; rw [e1, e2]; simp
end Go.Proofs.YtfabmleiibnhdaaDoor.Qu
