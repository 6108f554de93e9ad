/- Plain facts of strand: bytes that are cut off within an item hold it no more. -/
import Derived.Test.YthngdaeiopgigaaDoorMd
import Derived.Test.YthngdaeiopgigaaDoorLb
namespace Go.Proofs.YthngdaeiopgigaaDoor
open Go.RowKit
def zeroI (k : Int) : Itm := ⟨k, 0, ⟨#[]⟩, []⟩
theorem unz0 : unzig 0 = 0 := by unfold unzig; simp
theorem get_err (x : Itm) (hk : 1 ≤ x.kind ∧ x.kind ≤ 6) (l : List UInt8) (q : ByteArray × Addr) (aF : Addr) : RS.get aF x ⟨l, some q⟩ = (zeroI x.kind, ⟨l, some q⟩) := by
  obtain ⟨kd, N, text, fl⟩ := x
  obtain ⟨hk1, hk2⟩ := hk
  simp only at hk1 hk2
  obtain rfl | rfl | rfl | rfl | rfl | rfl : kd = 1 ∨ kd = 2 ∨ kd = 3 ∨ kd = 4 ∨ kd = 5 ∨ kd = 6 := by omega
  all_goals first | rfl | (show ((⟨3, unzig 0, ⟨#[]⟩, []⟩ : Itm), _) = _; rw [unz0]; rfl)
theorem number_mono {s : ByteArray} {aF : Addr} {m : Int} {l t u : List UInt8} {n : Nat} (h : RS.number s aF m ⟨l, none⟩ = (n, ⟨t, none⟩)) : RS.number s aF m ⟨l ++ u, none⟩ = (n, ⟨t ++ u, none⟩) := by
  rcases number_cases s aF m l with ⟨n', t', h1, h2, h3, h4⟩ | h1
  · rw [h1] at h
    cases h
    rw [h2, List.append_assoc]
    exact number_grp s aF m n (t ++ u) h3 h4
  · rw [h1] at h; cases h
theorem lo_append {l u : List UInt8} {n : Nat} (h : (n + 7) / 8 ≤ l.length) : lo (l ++ u) n = lo l n := by
  unfold lo
  by_cases hn : n % 8 = 0
  · simp [hn]
  · rw [List.getD_eq_getElem?_getD, List.getElem?_append_left (by omega), ← List.getD_eq_getElem?_getD]
theorem unpk_append {l u : List UInt8} {n : Nat} (h : (n + 7) / 8 ≤ l.length) : unpk (l ++ u) n = unpk l n := by
  unfold unpk
  apply List.map_congr_left
  intro i hi
  have hi : i < n := by simpa using hi
  rw [List.getD_eq_getElem?_getD, List.getElem?_append_left (by omega), ← List.getD_eq_getElem?_getD]
/-- What is read doesn't hang on what stands behind it. -/
theorem get_mono (x : Itm) (hk : 1 ≤ x.kind ∧ x.kind ≤ 6) (l t u : List UInt8) (y : Itm) (aF : Addr) (h : RS.get aF x ⟨l, none⟩ = (y, ⟨t, none⟩)) : RS.get aF x ⟨l ++ u, none⟩ = (y, ⟨t ++ u, none⟩) := by
  obtain ⟨kd, N, text, fl⟩ := x
  obtain ⟨hk1, hk2⟩ := hk
  simp only at hk1 hk2
  obtain rfl | rfl | rfl | rfl | rfl | rfl : kd = 1 ∨ kd = 2 ∨ kd = 3 ∨ kd = 4 ∨ kd = 5 ∨ kd = 6 := by omega
  · have h' : ((⟨1, (RS.byte aF ⟨l, none⟩).1, ⟨#[]⟩, []⟩ : Itm), (RS.byte aF ⟨l, none⟩).2) = (y, ⟨t, none⟩) := h
    cases l with
    | nil => cases h'
    | cons c r => cases h'; rfl
  · have h' : ((⟨2, (RS.number nmCount aF 9223372036854775807 ⟨l, none⟩).1, ⟨#[]⟩, []⟩ : Itm), (RS.number nmCount aF 9223372036854775807 ⟨l, none⟩).2) = (y, ⟨t, none⟩) := h
    show ((⟨2, (RS.number nmCount aF 9223372036854775807 ⟨l ++ u, none⟩).1, ⟨#[]⟩, []⟩ : Itm), (RS.number nmCount aF 9223372036854775807 ⟨l ++ u, none⟩).2) = _
    rcases hq : RS.number nmCount aF 9223372036854775807 ⟨l, none⟩ with ⟨n, r⟩
    rw [hq] at h'
    cases h'
    rw [number_mono hq]
  · have h' : ((⟨3, unzig (RS.number nmNum aF 18446744073709551615 ⟨l, none⟩).1, ⟨#[]⟩, []⟩ : Itm), (RS.number nmNum aF 18446744073709551615 ⟨l, none⟩).2) = (y, ⟨t, none⟩) := h
    show ((⟨3, unzig (RS.number nmNum aF 18446744073709551615 ⟨l ++ u, none⟩).1, ⟨#[]⟩, []⟩ : Itm), (RS.number nmNum aF 18446744073709551615 ⟨l ++ u, none⟩).2) = _
    rcases hq : RS.number nmNum aF 18446744073709551615 ⟨l, none⟩ with ⟨n, r⟩
    rw [hq] at h'
    cases h'
    rw [number_mono hq]
  · have h' : ((⟨4, 0, ⟨(RS.text aF N ⟨l, none⟩).1.toArray⟩, []⟩ : Itm), (RS.text aF N ⟨l, none⟩).2) = (y, ⟨t, none⟩) := h
    show ((⟨4, 0, ⟨(RS.text aF N ⟨l ++ u, none⟩).1.toArray⟩, []⟩ : Itm), (RS.text aF N ⟨l ++ u, none⟩).2) = _
    cases hu : ung l with
    | none =>
      rw [show RS.text aF N ⟨l, none⟩ = ([], ⟨l, some (nmText, aF)⟩) from by simp [RS.text, hu, RS.fail]] at h'
      cases h'
    | some q =>
      obtain ⟨n, r⟩ := q
      obtain ⟨h1, h2⟩ := ung_sound hu
      by_cases hc : 0 ≤ N ∧ (n : Int) ≤ N ∧ n ≤ r.length
      · rw [show RS.text aF N ⟨l, none⟩ = (r.take n, ⟨r.drop n, none⟩) from by simp only [RS.text, hu]; rw [if_pos hc]] at h'
        cases h'
        have hu2 : ung (l ++ u) = some (n, r ++ u) := by rw [h1, List.append_assoc]; exact ung_complete h2 _
        rw [show RS.text aF N ⟨l ++ u, none⟩ = ((r ++ u).take n, ⟨(r ++ u).drop n, none⟩) from by simp only [RS.text, hu2]; rw [if_pos ⟨hc.1, hc.2.1, by rw [List.length_append]; omega⟩]]
        rw [List.take_append_of_le_length hc.2.2, List.drop_append_of_le_length hc.2.2]
      · rw [show RS.text aF N ⟨l, none⟩ = ([], ⟨l, some (nmText, aF)⟩) from by simp only [RS.text, hu, RS.fail]; rw [if_neg hc]] at h'
        cases h'
  · have h' : ((⟨5, (RS.number nmBits aF 4294967295 ⟨l, none⟩).1, ⟨#[]⟩, []⟩ : Itm), (RS.number nmBits aF 4294967295 ⟨l, none⟩).2) = (y, ⟨t, none⟩) := h
    show ((⟨5, (RS.number nmBits aF 4294967295 ⟨l ++ u, none⟩).1, ⟨#[]⟩, []⟩ : Itm), (RS.number nmBits aF 4294967295 ⟨l ++ u, none⟩).2) = _
    rcases hq : RS.number nmBits aF 4294967295 ⟨l, none⟩ with ⟨n, r⟩
    rw [hq] at h'
    cases h'
    rw [number_mono hq]
  · have h' : ((⟨6, 0, ⟨#[]⟩, (RS.flags aF N ⟨l, none⟩).1⟩ : Itm), (RS.flags aF N ⟨l, none⟩).2) = (y, ⟨t, none⟩) := h
    show ((⟨6, 0, ⟨#[]⟩, (RS.flags aF N ⟨l ++ u, none⟩).1⟩ : Itm), (RS.flags aF N ⟨l ++ u, none⟩).2) = _
    by_cases hc : 0 ≤ N ∧ N ≤ 65536 ∧ (N.toNat + 7) / 8 ≤ l.length ∧ lo l N.toNat = false
    · rw [show RS.flags aF N ⟨l, none⟩ = (unpk l N.toNat, ⟨l.drop ((N.toNat + 7) / 8), none⟩) from by simp only [RS.flags]; rw [if_pos hc]] at h'
      cases h'
      obtain ⟨c1, c2, c3, c4⟩ := hc
      rw [show RS.flags aF N ⟨l ++ u, none⟩ = (unpk (l ++ u) N.toNat, ⟨(l ++ u).drop ((N.toNat + 7) / 8), none⟩) from by
        simp only [RS.flags]; rw [if_pos ⟨c1, c2, by rw [List.length_append]; omega, by rw [lo_append c3]; exact c4⟩], unpk_append c3, List.drop_append_of_le_length c3]
    · rw [show RS.flags aF N ⟨l, none⟩ = ([], ⟨l, some (nmFlags, aF)⟩) from by simp only [RS.flags, RS.fail]; rw [if_neg hc]] at h'
      cases h'
theorem get_no (x : Itm) (hk : 1 ≤ x.kind ∧ x.kind ≤ 6) (l : List UInt8) (y : Itm) (l' : List UInt8) (q : ByteArray × Addr) (aF : Addr) (h : RS.get aF x ⟨l, none⟩ = (y, ⟨l', some q⟩)) : y = zeroI x.kind := by
  obtain ⟨kd, N, text, fl⟩ := x
  obtain ⟨hk1, hk2⟩ := hk
  simp only at hk1 hk2
  obtain rfl | rfl | rfl | rfl | rfl | rfl : kd = 1 ∨ kd = 2 ∨ kd = 3 ∨ kd = 4 ∨ kd = 5 ∨ kd = 6 := by omega
  · have h' : ((⟨1, (RS.byte aF ⟨l, none⟩).1, ⟨#[]⟩, []⟩ : Itm), (RS.byte aF ⟨l, none⟩).2) = (y, ⟨l', some q⟩) := h
    cases l with
    | nil => cases h'; rfl
    | cons c r => cases h'
  · have h' : ((⟨2, (RS.number nmCount aF 9223372036854775807 ⟨l, none⟩).1, ⟨#[]⟩, []⟩ : Itm), (RS.number nmCount aF 9223372036854775807 ⟨l, none⟩).2) = (y, ⟨l', some q⟩) := h
    rcases number_cases nmCount aF 9223372036854775807 l with ⟨n, t, h1, _⟩ | h1
    · rw [h1] at h'; cases h'
    · rw [h1] at h'; cases h'; rfl
  · have h' : ((⟨3, unzig (RS.number nmNum aF 18446744073709551615 ⟨l, none⟩).1, ⟨#[]⟩, []⟩ : Itm), (RS.number nmNum aF 18446744073709551615 ⟨l, none⟩).2) = (y, ⟨l', some q⟩) := h
    rcases number_cases nmNum aF 18446744073709551615 l with ⟨n, t, h1, _⟩ | h1
    · rw [h1] at h'; cases h'
    · rw [h1] at h'; cases h'; show (⟨3, unzig 0, ⟨#[]⟩, []⟩ : Itm) = _; rw [unz0]; rfl
  · have h' : ((⟨4, 0, ⟨(RS.text aF N ⟨l, none⟩).1.toArray⟩, []⟩ : Itm), (RS.text aF N ⟨l, none⟩).2) = (y, ⟨l', some q⟩) := h
    have hc : RS.text aF N ⟨l, none⟩ = ([], ⟨l, some (nmText, aF)⟩) ∨ ∃ a b, RS.text aF N ⟨l, none⟩ = (a, ⟨b, none⟩) := by
      unfold RS.text
      cases hu : ung l with
      | none => left; rfl
      | some p =>
        simp only
        by_cases hc : 0 ≤ N ∧ (p.1 : Int) ≤ N ∧ p.1 ≤ p.2.length
        · right; rw [if_pos hc]; exact ⟨_, _, rfl⟩
        · left; rw [if_neg hc]; rfl
    rcases hc with h1 | ⟨a, b, h1⟩
    · rw [h1] at h'; cases h'; rfl
    · rw [h1] at h'; cases h'
  · have h' : ((⟨5, (RS.number nmBits aF 4294967295 ⟨l, none⟩).1, ⟨#[]⟩, []⟩ : Itm), (RS.number nmBits aF 4294967295 ⟨l, none⟩).2) = (y, ⟨l', some q⟩) := h
    rcases number_cases nmBits aF 4294967295 l with ⟨n, t, h1, _⟩ | h1
    · rw [h1] at h'; cases h'
    · rw [h1] at h'; cases h'; rfl
  · have h' : ((⟨6, 0, ⟨#[]⟩, (RS.flags aF N ⟨l, none⟩).1⟩ : Itm), (RS.flags aF N ⟨l, none⟩).2) = (y, ⟨l', some q⟩) := h
    by_cases hc : 0 ≤ N ∧ N ≤ 65536 ∧ (N.toNat + 7) / 8 ≤ l.length ∧ lo l N.toNat = false
    · rw [show RS.flags aF N ⟨l, none⟩ = (unpk l N.toNat, ⟨l.drop ((N.toNat + 7) / 8), none⟩) from by simp only [RS.flags]; rw [if_pos hc]] at h'
      cases h'
    · rw [show RS.flags aF N ⟨l, none⟩ = ([], ⟨l, some (nmFlags, aF)⟩) from by simp only [RS.flags, RS.fail]; rw [if_neg hc]] at h'
      cases h'; rfl
/-- Within an item: it is wrong. -/
theorem get_cut (x : Itm) (hx : x.Ok) (e : List UInt8) (n : Nat) (aF : Addr) (he : x.enc = some e) (hn : n < e.length) : ∃ s, RS.get aF x.asked ⟨e.take n, none⟩ = (zeroI x.asked.kind, ⟨e.take n, some (s, aF)⟩) := by
  have hk := asked_kind hx
  have hc := get_cases x.asked hk (e.take n) aF
  have hm := get_mono x.asked hk (e.take n)
  have hno := get_no x.asked hk (e.take n)
  generalize hq : RS.get aF x.asked ⟨e.take n, none⟩ = q at hc
  cases hc with
  | yes y e' t hl _ _ _ _ _ _ _ =>
    have h1 := hm t (e.drop n) y aF hq
    rw [List.take_append_drop] at h1
    have h2 := get_enc x hx e [] aF he
    rw [List.append_nil] at h2
    rw [h2] at h1
    simp only [Prod.mk.injEq, RS.mk.injEq] at h1
    have := congrArg List.length h1.2.1
    simp at this
    omega
  | no y s h0 =>
    rw [hno y (e.take n) (s, aF) aF hq]
    exact ⟨s, rfl⟩
end Go.Proofs.YthngdaeiopgigaaDoor
