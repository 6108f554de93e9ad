/- Whom a filter means, plainly. -/
import Derived.Test.YtfabmleiibnhdaaDoorRsGa
namespace Go.Proofs.YtfabmleiibnhdaaDoor.Qu
open Go.Proofs.YtfabmleiibnhdaaDoor.Rs (Prt)
open Go.Proofs.YtfabmleiibnhdaaDoor.At (lst lst_mem an wi wi_bit)
/-- What a map of the greatest frames is behind a part more. -/
def stp (m : Int → Option Int) (p : Prt) : Int → Option Int :=
  match m p.c with
  | none => fun i => if i = p.c then some p.t else m i
  | some x => if x < p.t then fun i => if i = p.c then some p.t else m i else m
def tk (l : List Prt) : Int → Option Int := l.foldl stp fun _ => none
theorem tk_next {l : List Prt} {k : Nat} {p : Prt} (h : l[k]? = some p) : tk (l.take (k + 1)) = stp (tk (l.take k)) p := by
  obtain ⟨hl, rfl⟩ := List.getElem?_eq_some_iff.1 h
  unfold tk
  rw [List.take_succ_eq_append_getElem hl, List.foldl_append]
  rfl
def hasP (l : List Prt) (i : Int) : Bool := l.any fun p => p.c == i
def lateP (l : List Prt) (i s : Int) : Bool := l.any fun p => p.c == i && decide (s ≤ p.t)
theorem hasP_iff (l : List Prt) (i : Int) : hasP l i = true ↔ ∃ p ∈ l, p.c = i := by
  unfold hasP; rw [List.any_eq_true]; constructor <;> rintro ⟨p, h, e⟩ <;> exact ⟨p, h, by simpa using e⟩
theorem lateP_iff (l : List Prt) (i s : Int) : lateP l i s = true ↔ ∃ p ∈ l, p.c = i ∧ s ≤ p.t := by
  unfold lateP; rw [List.any_eq_true]; constructor <;> rintro ⟨p, h, e⟩ <;> exact ⟨p, h, by simpa using e⟩
def Grt (l : List Prt) (m : Int → Option Int) : Prop := ∀ i, (m i = none → ∀ p ∈ l, p.c ≠ i) ∧ ∀ x, m i = some x → (∃ p ∈ l, p.c = i ∧ p.t = x) ∧ ∀ p ∈ l, p.c = i → p.t ≤ x
theorem Grt.step {l : List Prt} {m : Int → Option Int} (h : Grt l m) (p : Prt) : Grt (l ++ [p]) (stp m p) := by
  intro i
  unfold stp
  have hp := h p.c
  have hi := h i
  cases e : m p.c with
  | none =>
    simp only
    by_cases q : i = p.c
    · subst q
      rw [if_pos rfl]
      refine ⟨fun z => by simp at z, fun x hx => ?_⟩
      obtain rfl : p.t = x := by simpa using hx
      refine ⟨⟨p, by simp, rfl, rfl⟩, fun p' hp' hc => ?_⟩
      rcases List.mem_append.1 hp' with h1 | h1
      · exact absurd hc (hp.1 e p' h1)
      · obtain rfl : p' = p := by simpa using h1
        exact Int.le_refl _
    · rw [if_neg q]
      refine ⟨fun z p' hp' => ?_, fun x hx => ⟨?_, fun p' hp' hc => ?_⟩⟩
      · rcases List.mem_append.1 hp' with h1 | h1
        · exact hi.1 z p' h1
        · obtain rfl : p' = p := by simpa using h1
          exact fun w => q w.symm
      · obtain ⟨p', h1, h2⟩ := (hi.2 x hx).1
        exact ⟨p', List.mem_append_left _ h1, h2⟩
      · rcases List.mem_append.1 hp' with h1 | h1
        · exact (hi.2 x hx).2 p' h1 hc
        · obtain rfl : p' = p := by simpa using h1
          exact absurd hc.symm q
  | some x0 =>
    simp only
    have hp2 := hp.2 x0 e
    by_cases ht : x0 < p.t
    · rw [if_pos ht]
      by_cases q : i = p.c
      · subst q
        rw [if_pos rfl]
        refine ⟨fun z => by simp at z, fun x hx => ?_⟩
        obtain rfl : p.t = x := by simpa using hx
        refine ⟨⟨p, by simp, rfl, rfl⟩, fun p' hp' hc => ?_⟩
        rcases List.mem_append.1 hp' with h1 | h1
        · have := hp2.2 p' h1 hc; omega
        · obtain rfl : p' = p := by simpa using h1
          exact Int.le_refl _
      · rw [if_neg q]
        refine ⟨fun z p' hp' => ?_, fun x hx => ⟨?_, fun p' hp' hc => ?_⟩⟩
        · rcases List.mem_append.1 hp' with h1 | h1
          · exact hi.1 z p' h1
          · obtain rfl : p' = p := by simpa using h1
            exact fun w => q w.symm
        · obtain ⟨p', h1, h2⟩ := (hi.2 x hx).1
          exact ⟨p', List.mem_append_left _ h1, h2⟩
        · rcases List.mem_append.1 hp' with h1 | h1
          · exact (hi.2 x hx).2 p' h1 hc
          · obtain rfl : p' = p := by simpa using h1
            exact absurd hc.symm q
    · rw [if_neg ht]
      refine ⟨fun z p' hp' => ?_, fun x hx => ⟨?_, fun p' hp' hc => ?_⟩⟩
      · rcases List.mem_append.1 hp' with h1 | h1
        · exact hi.1 z p' h1
        · obtain rfl : p' = p := by simpa using h1
          rintro rfl
          rw [e] at z; simp at z
      · obtain ⟨p', h1, h2⟩ := (hi.2 x hx).1
        exact ⟨p', List.mem_append_left _ h1, h2⟩
      · rcases List.mem_append.1 hp' with h1 | h1
        · exact (hi.2 x hx).2 p' h1 hc
        · obtain rfl : p' = p := by simpa using h1
          subst hc
          rw [e] at hx
          obtain rfl : x0 = x := by simpa using hx
          omega
theorem tk_grt (l : List Prt) : Grt l (tk l) := by
  suffices h : ∀ (l l0 : List Prt) (m : Int → Option Int), Grt l0 m → Grt (l0 ++ l) (l.foldl stp m) by
    have := h l [] (fun _ => none) (fun i => ⟨fun _ p hp => by simp at hp, fun x hx => by simp at hx⟩)
    simpa [tk] using this
  intro l
  induction l with
  | nil => intro l0 m h; simpa using h
  | cons p l ih =>
    intro l0 m h
    have := ih (l0 ++ [p]) (stp m p) (h.step p)
    simpa using this
theorem tk_has (l : List Prt) (i : Int) : (tk l i).isSome = hasP l i := by
  rw [Bool.eq_iff_iff, hasP_iff]
  have h := tk_grt l i
  cases e : tk l i with
  | none => simp; exact fun p hp => h.1 e p hp
  | some x =>
    simp
    obtain ⟨p, hp, hc, _⟩ := (h.2 x e).1
    exact ⟨p, hp, hc⟩
theorem tk_late (l : List Prt) (i s : Int) : ((tk l i).isSome && decide (s ≤ (tk l i).getD 0)) = lateP l i s := by
  rw [Bool.eq_iff_iff, lateP_iff]
  have h := tk_grt l i
  cases e : tk l i with
  | none => simp; exact fun p hp hc => absurd hc (h.1 e p hp)
  | some x =>
    obtain ⟨⟨p, hp, hc, ht⟩, hmax⟩ := h.2 x e
    simp
    constructor
    · intro hs; exact ⟨p, hp, hc, by omega⟩
    · rintro ⟨p', h1, h2, h3⟩; have := hmax p' h1 h2; omega
theorem tk_small (l : List Prt) (I : Int → Prop) (hI : ∀ p ∈ l, I p.t) (i x : Int) (h : tk l i = some x) : I x := by
  obtain ⟨⟨p, hp, _, rfl⟩, _⟩ := (tk_grt l i).2 x h
  exact hI p hp
/-- The frame that is the first one that is lately. -/
def snc (fr : Int) : Int := max fr (-4611686018427387904) - 1
/-- Something holds of all of a set. -/
def evB (m : Nat) (P : Int → Bool) : Bool := (lst 32 m).all fun i => P ((i : Nat) : Int)
theorem evB_iff (m : Nat) (P : Int → Bool) : evB m P = true ↔ ∀ i, i < 32 → m.testBit i = true → P ((i : Nat) : Int) = true := by
  unfold evB
  rw [List.all_eq_true]
  constructor
  · intro h i h1 h2; exact h i ((lst_mem m i 32).2 ⟨h1, h2⟩)
  · intro h i hi; exact h i ((lst_mem m i 32).1 hi).1 ((lst_mem m i 32).1 hi).2
/-- Whether a filter means parts, in a frame. -/
def meansB (a b c : Nat) (fr : Int) (l : List Prt) : Bool := evB a (hasP l) && evB b (fun i => !hasP l i) && evB c (fun i => lateP l i (snc fr))
theorem meansB_iff (a b c : Nat) (fr : Int) (l : List Prt) : meansB a b c fr l = true ↔ ∀ i, i < 32 → (a.testBit i = true → hasP l (i : Int) = true) ∧ (b.testBit i = true → hasP l (i : Int) = false) ∧ (c.testBit i = true → lateP l (i : Int) (snc fr) = true) := by
  unfold meansB
  rw [Bool.and_eq_true, Bool.and_eq_true, evB_iff, evB_iff, evB_iff]
  constructor
  · rintro ⟨⟨h1, h2⟩, h3⟩ i hi; exact ⟨h1 i hi, fun q => by simpa using h2 i hi q, h3 i hi⟩
  · intro h; exact ⟨⟨fun i hi => (h i hi).1, fun i hi q => by simpa using (h i hi).2.1 q⟩, fun i hi => (h i hi).2.2⟩
end Go.Proofs.YtfabmleiibnhdaaDoor.Qu
