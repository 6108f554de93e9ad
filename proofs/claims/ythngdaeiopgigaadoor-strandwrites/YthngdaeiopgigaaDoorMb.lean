/- Plain mathematics of strand: the groups of a number, read back. -/
import Derived.WalkKit
namespace Go.Proofs.YthngdaeiopgigaaDoor
def U64 (n : Nat) : Prop := n < 18446744073709551616
def grp (n : Nat) : List UInt8 := if h : n < 128 then [UInt8.ofNat n] else UInt8.ofNat (n % 128 + 128) :: grp (n / 128)
theorem grp_lt {n : Nat} (h : n < 128) : grp n = [UInt8.ofNat n] := by rw [grp]; simp [h]
theorem grp_ge {n : Nat} (h : ¬ n < 128) : grp n = UInt8.ofNat (n % 128 + 128) :: grp (n / 128) := by rw [grp]; simp [h]
theorem grp_len : ∀ (d n : Nat), n < 128 ^ (d + 1) → (grp n).length ≤ d + 1
  | 0, n, h => by rw [grp_lt (by omega)]; simp
  | d + 1, n, h => by
    by_cases hn : n < 128
    · rw [grp_lt hn]; simp
    · rw [grp_ge hn]
      have := grp_len d (n / 128) (by rw [Nat.div_lt_iff_lt_mul (by decide)]; rw [← Nat.pow_succ]; exact h)
      simp; omega
theorem grp_len10 {n : Nat} (h : U64 n) : (grp n).length ≤ 10 := grp_len 9 n (by unfold U64 at h; omega)
theorem grp_pos (n : Nat) : 0 < (grp n).length := by
  by_cases h : n < 128
  · rw [grp_lt h]; simp
  · rw [grp_ge h]; simp
theorem toNat_of {n : Nat} (h : n < 256) : (UInt8.ofNat n).toNat = n := by simp; omega

/-- The number whose groups a row begins with, of at most so many groups. -/
def ungL : Nat → List UInt8 → Option (Nat × List UInt8)
  | 0, _ => none
  | _ + 1, [] => none
  | f + 1, c :: t => if c.toNat < 128 then some (c.toNat, t) else match ungL f t with
    | some (n, r) => if n = 0 then none else some (c.toNat % 128 + 128 * n, r)
    | none => none
def ung (l : List UInt8) : Option (Nat × List UInt8) := match ungL 10 l with
  | some (n, t) => if n < 18446744073709551616 then some (n, t) else none
  | none => none
theorem ofNat_toNat (c : UInt8) : UInt8.ofNat c.toNat = c := by simp
theorem ungL_sound : ∀ (f : Nat) (l : List UInt8) (n : Nat) (t : List UInt8), ungL f l = some (n, t) → l = grp n ++ t ∧ (grp n).length ≤ f
  | 0, l, n, t, h => by simp [ungL] at h
  | f + 1, [], n, t, h => by simp [ungL] at h
  | f + 1, c :: r, n, t, h => by
    rw [ungL] at h
    by_cases hc : c.toNat < 128
    · rw [if_pos hc] at h
      simp only [Option.some.injEq, Prod.mk.injEq] at h
      obtain ⟨rfl, rfl⟩ := h
      rw [grp_lt hc, ofNat_toNat]
      simp
    · rw [if_neg hc] at h
      have hc2 : c.toNat < 256 := c.toNat_lt
      cases hr : ungL f r with
      | none => rw [hr] at h; simp at h
      | some q =>
        obtain ⟨m, u⟩ := q
        rw [hr] at h
        simp only at h
        by_cases hm : m = 0
        · rw [if_pos hm] at h; simp at h
        · rw [if_neg hm] at h
          simp only [Option.some.injEq, Prod.mk.injEq] at h
          obtain ⟨rfl, rfl⟩ := h
          obtain ⟨h1, h2⟩ := ungL_sound f r m u hr
          rw [grp_ge (by omega), show (c.toNat % 128 + 128 * m) % 128 + 128 = c.toNat by omega, show (c.toNat % 128 + 128 * m) / 128 = m by omega, ofNat_toNat]
          simp [← h1]; omega
theorem ungL_complete : ∀ (f n : Nat) (t : List UInt8), (grp n).length ≤ f → ungL f (grp n ++ t) = some (n, t)
  | 0, n, t, h => by have := grp_pos n; omega
  | f + 1, n, t, h => by
    by_cases hn : n < 128
    · rw [grp_lt hn]
      simp only [List.singleton_append, ungL]
      rw [toNat_of (by omega), if_pos hn]
    · rw [grp_ge hn] at h ⊢
      simp only [List.cons_append, ungL]
      rw [toNat_of (by omega), if_neg (by omega), ungL_complete f (n / 128) t (by simpa using h)]
      simp only
      rw [if_neg (by omega)]
      congr 2
      omega
theorem ung_sound {l : List UInt8} {n : Nat} {t : List UInt8} (h : ung l = some (n, t)) : l = grp n ++ t ∧ U64 n := by
  unfold ung at h
  cases hr : ungL 10 l with
  | none => rw [hr] at h; simp at h
  | some q =>
    obtain ⟨m, u⟩ := q
    rw [hr] at h
    simp only at h
    by_cases hm : m < 18446744073709551616
    · rw [if_pos hm] at h
      simp only [Option.some.injEq, Prod.mk.injEq] at h
      obtain ⟨rfl, rfl⟩ := h
      exact ⟨(ungL_sound 10 l m u hr).1, hm⟩
    · rw [if_neg hm] at h; simp at h
theorem ung_complete {n : Nat} (h : U64 n) (t : List UInt8) : ung (grp n ++ t) = some (n, t) := by
  unfold ung
  rw [ungL_complete 10 n t (grp_len10 h)]
  simp only
  exact if_pos h
/-- What is left of a row's reading behind i groups that are worth acc. -/
def ungAt (i acc : Nat) (m : List UInt8) : Option (Nat × List UInt8) := match ungL (10 - i) m with
  | some (n, t) => if 0 < i ∧ n = 0 then none else some (acc + 128 ^ i * n, t)
  | none => none
theorem ungAt_zero (l : List UInt8) : ungAt 0 0 l = ungL 10 l := by
  unfold ungAt
  show _ = ungL (10 - 0) l
  cases h : ungL (10 - 0) l with
  | none => rfl
  | some q => obtain ⟨n, t⟩ := q; simp
theorem ungAt_nil (i acc : Nat) : ungAt i acc [] = none := by
  unfold ungAt
  cases h : 10 - i <;> simp [ungL]
theorem ungAt_ten (acc : Nat) (m : List UInt8) : ungAt 10 acc m = none := by simp [ungAt, ungL]
theorem ungAt_more {i acc : Nat} {c : UInt8} {m : List UInt8} (hi : i < 10) (hc : ¬ c.toNat < 128) : ungAt i acc (c :: m) = ungAt (i + 1) (acc + c.toNat % 128 * 128 ^ i) m := by
  unfold ungAt
  rw [show 10 - i = (10 - (i + 1)) + 1 by omega, ungL, if_neg hc]
  cases h : ungL (10 - (i + 1)) m with
  | none => rfl
  | some q =>
    obtain ⟨n, t⟩ := q
    simp only
    by_cases hn : n = 0
    · simp [hn]
    · rw [if_neg hn]
      simp only
      rw [if_neg (by omega), if_neg (by omega)]
      congr 2
      rw [Nat.mul_add, Nat.pow_succ, Nat.add_assoc, Nat.mul_comm (c.toNat % 128), Nat.mul_assoc]
theorem ungAt_last {i acc : Nat} {c : UInt8} {m : List UInt8} (hi : i < 10) (hc : c.toNat < 128) : ungAt i acc (c :: m) = if 0 < i ∧ c.toNat = 0 then none else some (acc + 128 ^ i * c.toNat, m) := by
  unfold ungAt
  rw [show 10 - i = (10 - (i + 1)) + 1 by omega, ungL, if_pos hc]
end Go.Proofs.YthngdaeiopgigaaDoor
