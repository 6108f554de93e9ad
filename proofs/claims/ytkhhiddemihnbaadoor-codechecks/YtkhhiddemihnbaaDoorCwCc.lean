/- Check plainly: all that is wrong with code. -/
import Derived.Test.YtkhhiddemihnbaaDoorCwAc
import Derived.Lib.ItoaNum
namespace Go.Proofs.YtkhhiddemihnbaaDoor.Cw
open Go.RowKit Go.Shelf
def dig (i : Nat) : ByteArray := ⟨(Lib.decDigits i).toArray⟩
abbrev Leaves := List (List ByteArray × Nat)
def wC : ByteArray := ⟨#[99, 111, 100, 101]⟩
def wA : ByteArray := ⟨#[97]⟩
def wB : ByteArray := ⟨#[98]⟩
def wO : ByteArray := ⟨#[111, 112]⟩
def at4 (i : Nat) (p : ByteArray) (ns : List Nat) : Leaves := ns.map fun k => ([wC, dig i, p], k)
def insL (cs : List Cmp) (rs : List Rsc) (m i : Nat) (x : Ins) : Leaves := if known x.1 then at4 i wA (aNs cs rs m x) ++ at4 i wB (bNs cs rs m x) else at4 i wO [14]
def insT (cs : List Cmp) (rs : List Rsc) (l : List Ins) : Nat → Leaves
  | 0 => []
  | k + 1 => insT cs rs l k ++ (match l[k]? with | some x => insL cs rs l.length k x | none => [])
def longL (l : List Ins) : Leaves := if 64 < l.length then [([wC], 4)] else []
def errsL (cs : List Cmp) (rs : List Rsc) (l : List Ins) : Leaves := longL l ++ insT cs rs l l.length
theorem insT_next {cs : List Cmp} {rs : List Rsc} {l : List Ins} {k : Nat} {x : Ins} (h : l[k]? = some x) : insT cs rs l (k + 1) = insT cs rs l k ++ insL cs rs l.length k x := by simp [insT, h]
theorem aNs_len (cs : List Cmp) (rs : List Rsc) (m : Nat) (x : Ins) : (aNs cs rs m x).length ≤ 1 ∧ ∀ k ∈ aNs cs rs m x, 1 ≤ k ∧ k ≤ 18 := by
  unfold aNs
  split
  · simp
  · split <;> simp
theorem bNs_len (cs : List Cmp) (rs : List Rsc) (m : Nat) (x : Ins) : (bNs cs rs m x).length ≤ 1 ∧ ∀ k ∈ bNs cs rs m x, 1 ≤ k ∧ k ≤ 18 := by
  unfold bNs
  split <;> simp
theorem insL_len (cs : List Cmp) (rs : List Rsc) (m i : Nat) (x : Ins) : (insL cs rs m i x).length ≤ 2 := by
  have h1 := (aNs_len cs rs m x).1
  have h2 := (bNs_len cs rs m x).1
  unfold insL at4
  split
  · simp only [List.length_append, List.length_map]
    omega
  · simp
theorem insT_len (cs : List Cmp) (rs : List Rsc) (l : List Ins) : ∀ k, (insT cs rs l k).length ≤ 2 * k
  | 0 => by simp [insT]
  | k + 1 => by
    have ih := insT_len cs rs l k
    simp only [insT, List.length_append]
    cases l[k]? with
    | none => simp; omega
    | some x => have := insL_len cs rs l.length k x; simp only []; omega
theorem longL_len (l : List Ins) : (longL l).length ≤ 1 := by unfold longL; split <;> simp
theorem insL_nil (cs : List Cmp) (rs : List Rsc) (m i : Nat) (x : Ins) : insL cs rs m i x = [] ↔ OkI cs rs m x := by
  unfold insL OkI at4
  cases hk : known x.1 with
  | false => simp
  | true =>
    have ha : aNs cs rs m x = [] ↔ aOk cs rs m x = true := by
      unfold aNs
      cases aOk cs rs m x with
      | true => simp
      | false =>
        simp
        split <;> simp
    have hb : bNs cs rs m x = [] ↔ bOk cs rs m x = true := by
      unfold bNs
      cases bOk cs rs m x <;> simp
    simp [ha, hb]
theorem insT_nil (cs : List Cmp) (rs : List Rsc) (l : List Ins) : ∀ k, insT cs rs l k = [] ↔ ∀ j x, j < k → l[j]? = some x → OkI cs rs l.length x
  | 0 => by simp [insT]
  | k + 1 => by
    have ih := insT_nil cs rs l k
    unfold insT
    rw [List.append_eq_nil_iff, ih]
    constructor
    · rintro ⟨h1, h2⟩ j x hj hx
      by_cases e : j = k
      · subst e
        rw [hx] at h2
        exact (insL_nil cs rs l.length j x).1 h2
      · exact h1 j x (by omega) hx
    · intro h
      refine ⟨fun j x hj hx => h j x (by omega) hx, ?_⟩
      cases hx : l[k]? with
      | none => rfl
      | some x => exact (insL_nil cs rs l.length k x).2 (h k x (by omega) hx)
theorem errs_nil (cs : List Cmp) (rs : List Rsc) (l : List Ins) : errsL cs rs l = [] ↔ l.length ≤ 64 ∧ ∀ x ∈ l, OkI cs rs l.length x := by
  unfold errsL
  rw [List.append_eq_nil_iff, insT_nil]
  constructor
  · rintro ⟨h1, h2⟩
    refine ⟨?_, fun x hx => ?_⟩
    · unfold longL at h1
      split at h1
      · simp at h1
      · omega
    · obtain ⟨j, hj⟩ := List.getElem?_of_mem hx
      exact h2 j x (List.getElem?_eq_some_iff.1 hj).1 hj
  · rintro ⟨h1, h2⟩
    refine ⟨?_, fun j x _ hx => h2 x (List.mem_of_getElem? hx)⟩
    unfold longL
    rw [if_neg (by omega)]
/-- What Check tells. -/
def ChkR (cs : List Cmp) (rs : List Rsc) (l : List Ins) (L : Leaves) : Prop := (errsL cs rs l ≠ [] ∧ L = errsL cs rs l) ∨ (errsL cs rs l = [] ∧ ((Fine l ∧ L = []) ∨ (¬ Fine l ∧ L = [([wC], 12)])))
theorem chk_nil {cs : List Cmp} {rs : List Rsc} {l : List Ins} {L : Leaves} (h : ChkR cs rs l L) : L = [] ↔ Acc cs rs l := by
  unfold Acc
  rw [← errs_nil]
  rcases h with ⟨h1, rfl⟩ | ⟨h1, ⟨h2, rfl⟩ | ⟨h2, rfl⟩⟩
  · simp [h1]
  · simp [h1, h2]
  · simp [h2]
theorem chk_len {cs : List Cmp} {rs : List Rsc} {l : List Ins} {L : Leaves} (h : ChkR cs rs l L) : L.length ≤ 1 + 2 * l.length := by
  have h1 := longL_len l
  have h2 := insT_len cs rs l l.length
  rcases h with ⟨_, rfl⟩ | ⟨_, ⟨_, rfl⟩ | ⟨_, rfl⟩⟩
  · unfold errsL
    rw [List.length_append]
    omega
  · simp
  · simp
end Go.Proofs.YtkhhiddemihnbaaDoor.Cw
