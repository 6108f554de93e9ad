/- Plain facts of strand: what is read would be written so. -/
import Derived.Test.YthngdaeiopgigaaDoorMc
namespace Go.Proofs.YthngdaeiopgigaaDoor
open Go.RowKit
theorem lo_false {l : List UInt8} {n : Nat} (h : lo l n = false) (hn : n % 8 ≠ 0) : (l.getD (n / 8) 0).toNat < 2 ^ (n % 8) := by
  unfold lo at h
  rw [decide_eq_true (by omega), Bool.true_and, decide_eq_false_iff_not] at h
  have h0 : (l.getD (n / 8) 0).toNat / 2 ^ (n % 8) = 0 := Nat.eq_zero_of_not_pos h
  rcases Nat.lt_or_ge (l.getD (n / 8) 0).toNat (2 ^ (n % 8)) with h1 | h1
  · exact h1
  · have := Nat.div_pos h1 (Nat.two_pow_pos _); omega
theorem unpk_getD (l : List UInt8) (n i : Nat) : (unpk l n).getD i false = if i < n then ((l.getD (i / 8) 0).toNat / 2 ^ (i % 8) % 2 == 1) else false := by
  unfold unpk
  rw [List.getD_eq_getElem?_getD, List.getElem?_map]
  by_cases h : i < n
  · rw [List.getElem?_range h, if_pos h]; rfl
  · rw [List.getElem?_eq_none (by simpa using h), if_neg h]; rfl
theorem bN_beq (c : Nat) (h : c < 2) : bN (c == 1) = c := by
  obtain rfl | rfl : c = 0 ∨ c = 1 := by omega
  · rfl
  · rfl
/-- The bits of the jth byte, as flags. -/
theorem unpk_bit {l : List UInt8} {n : Nat} (h : lo l n = false) (j t : Nat) (ht : t < 8) (hj : j < (n + 7) / 8) : bN ((unpk l n).getD (8 * j + t) false) = (l.getD j 0).toNat / 2 ^ t % 2 := by
  rw [unpk_getD, show (8 * j + t) / 8 = j by omega, show (8 * j + t) % 8 = t by omega]
  by_cases hi : 8 * j + t < n
  · rw [if_pos hi, bN_beq _ (by omega)]
  · rw [if_neg hi]
    have hn : n % 8 ≠ 0 := by omega
    have h1 := lo_false h hn
    rw [show n / 8 = j by omega] at h1
    have h2 : 2 ^ (n % 8) ≤ 2 ^ t := Nat.pow_le_pow_right (by decide) (by omega)
    rw [Nat.div_eq_of_lt (by omega)]; rfl
theorem byte_bits (c : Nat) (h : c < 256) : c / 2 ^ 0 % 2 + 2 * (c / 2 ^ 1 % 2) + 4 * (c / 2 ^ 2 % 2) + 8 * (c / 2 ^ 3 % 2) + 16 * (c / 2 ^ 4 % 2) + 32 * (c / 2 ^ 5 % 2) + 64 * (c / 2 ^ 6 % 2) + 128 * (c / 2 ^ 7 % 2) = c := by
  simp only [Nat.reducePow]; omega
theorem pk_unpk {l : List UInt8} {n : Nat} (h : lo l n = false) (j : Nat) (hj : j < (n + 7) / 8) : pk (unpk l n) j = (l.getD j 0).toNat := by
  have b := unpk_bit h j
  unfold pk
  rw [show 8 * j = 8 * j + 0 from rfl, b 0 (by omega) hj, b 1 (by omega) hj, b 2 (by omega) hj, b 3 (by omega) hj, b 4 (by omega) hj, b 5 (by omega) hj, b 6 (by omega) hj, b 7 (by omega) hj]
  exact byte_bits _ (UInt8.toNat_lt _)
theorem unpk_length (l : List UInt8) (n : Nat) : (unpk l n).length = n := by simp [unpk]
theorem packL_unpk {l : List UInt8} {n : Nat} (h : lo l n = false) (hl : (n + 7) / 8 ≤ l.length) : packL (unpk l n) = l.take ((n + 7) / 8) := by
  apply List.ext_getElem
  · rw [packL_length, unpk_length, List.length_take]; omega
  · intro i h1 h2
    have hi : i < (n + 7) / 8 := by rw [packL_length, unpk_length] at h1; exact h1
    simp only [packL, unpk_length, List.getElem_map, List.getElem_range, List.getElem_take]
    rw [pk_unpk h i hi, List.getD_eq_getElem?_getD, List.getElem?_eq_getElem (by omega)]
    simp
/-- What a call that reads does: it takes what would be written so, or nothing, and is wrong. -/
inductive Got (aF : Addr) (x : Itm) (l : List UInt8) : Itm × RS → Prop
  | yes (y : Itm) (e t : List UInt8) (hl : l = e ++ t) (he : y.enc = some e) (hk : y.kind = x.kind) (hN : I64 y.N) (ht : y.text.size ≤ l.length) (hf : y.fl.length ≤ 8 * l.length) (h0 : e = [] → x.kind = 6 ∧ x.N = 0) (h6 : x.kind = 6 ∧ x.N = 0 → e = []) : Got aF x l (y, ⟨t, none⟩)
  | no (y : Itm) (s : ByteArray) (h0 : ¬ (x.kind = 6 ∧ x.N = 0)) : Got aF x l (y, ⟨l, some (s, aF)⟩)
theorem grp_ne (n : Nat) : grp n ≠ [] := by intro h; have := grp_pos n; rw [h] at this; simp at this
theorem number_cases (s : ByteArray) (aF : Addr) (m : Int) (l : List UInt8) :
    (∃ n t, RS.number s aF m ⟨l, none⟩ = (n, ⟨t, none⟩) ∧ l = grp n ++ t ∧ U64 n ∧ (n : Int) ≤ m) ∨ RS.number s aF m ⟨l, none⟩ = (0, ⟨l, some (s, aF)⟩) := by
  cases hu : ung l with
  | none => right; simp [RS.number, hu, RS.fail]
  | some q =>
    obtain ⟨n, t⟩ := q
    obtain ⟨h1, h2⟩ := ung_sound hu
    by_cases h : (n : Int) ≤ m
    · left; exact ⟨n, t, by simp [RS.number, hu, h], h1, h2, h⟩
    · right; simp [RS.number, hu, h, RS.fail]
theorem get_cases (x : Itm) (hk : 1 ≤ x.kind ∧ x.kind ≤ 6) (l : List UInt8) (aF : Addr) : Got aF x l (RS.get aF x ⟨l, none⟩) := by
  obtain ⟨kd, N, text, fl⟩ := x
  obtain ⟨hk1, hk2⟩ := hk
  simp only at hk1 hk2
  obtain rfl | rfl | rfl | rfl | rfl | rfl : kd = 1 ∨ kd = 2 ∨ kd = 3 ∨ kd = 4 ∨ kd = 5 ∨ kd = 6 := by omega
  · show Got aF _ l ((⟨1, (RS.byte aF ⟨l, none⟩).1, ⟨#[]⟩, []⟩ : Itm), (RS.byte aF ⟨l, none⟩).2)
    cases l with
    | nil => exact .no _ _ (by simp)
    | cons c t =>
      have hc := c.toNat_lt
      refine .yes _ [c] t rfl ?_ rfl (by show I64 (c.toNat : Int); unfold I64; omega) (Nat.zero_le _) (Nat.zero_le _) (by simp) (by simp)
      show encByte (c.toNat : Int) = some [c]
      unfold encByte
      rw [if_neg (by omega), Int.toNat_natCast, ofNat_toNat]
  · show Got aF _ l ((⟨2, (RS.number nmCount aF 9223372036854775807 ⟨l, none⟩).1, ⟨#[]⟩, []⟩ : Itm), (RS.number nmCount aF 9223372036854775807 ⟨l, none⟩).2)
    rcases number_cases nmCount aF 9223372036854775807 l with ⟨n, t, h1, h2, h3, h4⟩ | h1
    · rw [h1]
      refine .yes _ (grp n) t h2 ?_ rfl (by show I64 (n : Int); unfold I64; omega) (Nat.zero_le _) (Nat.zero_le _) (fun h => absurd h (grp_ne n)) (by simp)
      show encCount (n : Int) = some (grp n)
      unfold encCount
      rw [if_neg (by omega), Int.toNat_natCast]
    · rw [h1]; exact .no _ _ (by simp)
  · show Got aF _ l ((⟨3, unzig (RS.number nmNum aF 18446744073709551615 ⟨l, none⟩).1, ⟨#[]⟩, []⟩ : Itm), (RS.number nmNum aF 18446744073709551615 ⟨l, none⟩).2)
    rcases number_cases nmNum aF 18446744073709551615 l with ⟨n, t, h1, h2, h3, h4⟩ | h1
    · rw [h1]
      refine .yes _ (grp n) t h2 ?_ rfl (unzig_i64 n h3) (Nat.zero_le _) (Nat.zero_le _) (fun h => absurd h (grp_ne n)) (by simp)
      show some (grp (zig (unzig n))) = some (grp n)
      rw [zig_unzig]
    · rw [h1]; exact .no _ _ (by simp)
  · show Got aF _ l ((⟨4, 0, ⟨(RS.text aF N ⟨l, none⟩).1.toArray⟩, []⟩ : Itm), (RS.text aF N ⟨l, none⟩).2)
    cases hu : ung l with
    | none =>
      rw [show RS.text aF N ⟨l, none⟩ = ([], ⟨l, some (nmText, aF)⟩) from by simp [RS.text, hu, RS.fail]]
      exact .no _ _ (by simp)
    | some q =>
      obtain ⟨n, t⟩ := q
      obtain ⟨h1, h2⟩ := ung_sound hu
      by_cases h : 0 ≤ N ∧ (n : Int) ≤ N ∧ n ≤ t.length
      · rw [show RS.text aF N ⟨l, none⟩ = (t.take n, ⟨t.drop n, none⟩) from by simp only [RS.text, hu]; rw [if_pos h]]
        have hsz : (⟨(t.take n).toArray⟩ : ByteArray).size = n := by
          show (t.take n).toArray.size = n
          simp; omega
        have hll : t.length ≤ l.length := by rw [h1, List.length_append]; omega
        refine .yes _ (grp n ++ t.take n) (t.drop n) (by rw [List.append_assoc, List.take_append_drop]; exact h1) ?_ rfl (by show I64 0; unfold I64; omega) (by rw [hsz]; omega) (Nat.zero_le _) (fun h => absurd (List.append_eq_nil_iff.1 h).1 (grp_ne n)) (by simp)
        show some (grp (⟨(t.take n).toArray⟩ : ByteArray).size ++ _) = _
        rw [hsz]
      · rw [show RS.text aF N ⟨l, none⟩ = ([], ⟨l, some (nmText, aF)⟩) from by simp only [RS.text, hu, RS.fail]; rw [if_neg h]]
        exact .no _ _ (by simp)
  · show Got aF _ l ((⟨5, (RS.number nmBits aF 4294967295 ⟨l, none⟩).1, ⟨#[]⟩, []⟩ : Itm), (RS.number nmBits aF 4294967295 ⟨l, none⟩).2)
    rcases number_cases nmBits aF 4294967295 l with ⟨n, t, h1, h2, h3, h4⟩ | h1
    · rw [h1]
      refine .yes _ (grp n) t h2 ?_ rfl (by show I64 (n : Int); unfold I64; omega) (Nat.zero_le _) (Nat.zero_le _) (fun h => absurd h (grp_ne n)) (by simp)
      show some (grp ((n : Int) % 4294967296).toNat) = some (grp n)
      rw [show ((n : Int) % 4294967296).toNat = n by omega]
    · rw [h1]; exact .no _ _ (by simp)
  · show Got aF _ l ((⟨6, 0, ⟨#[]⟩, (RS.flags aF N ⟨l, none⟩).1⟩ : Itm), (RS.flags aF N ⟨l, none⟩).2)
    by_cases h : 0 ≤ N ∧ N ≤ 65536 ∧ (N.toNat + 7) / 8 ≤ l.length ∧ lo l N.toNat = false
    · rw [show RS.flags aF N ⟨l, none⟩ = (unpk l N.toNat, ⟨l.drop ((N.toNat + 7) / 8), none⟩) from by simp only [RS.flags]; rw [if_pos h]]
      obtain ⟨h1, h2, h3, h4⟩ := h
      refine .yes _ (l.take ((N.toNat + 7) / 8)) _ (List.take_append_drop _ _).symm ?_ rfl (by show I64 0; unfold I64; omega) (Nat.zero_le _) (by rw [unpk_length]; omega) ?_ ?_
      · show some (packL (unpk l N.toNat)) = _
        rw [packL_unpk h4 h3]
      · intro he
        have := congrArg List.length he
        rw [List.length_take, List.length_nil] at this
        refine ⟨rfl, ?_⟩
        show N = 0
        omega
      · rintro ⟨_, h6⟩
        simp only at h6
        subst h6
        rfl
    · rw [show RS.flags aF N ⟨l, none⟩ = ([], ⟨l, some (nmFlags, aF)⟩) from by simp only [RS.flags, RS.fail]; rw [if_neg h]]
      refine .no _ _ ?_
      rintro ⟨_, h6⟩
      simp only at h6
      subst h6
      exact h ⟨by omega, by omega, by simp, by simp [lo]⟩
end Go.Proofs.YthngdaeiopgigaaDoor
