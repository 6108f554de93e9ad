/- Plain facts of strand: what is written is read as it was. -/
import Derived.Test.YthngdaeiopgigaaDoorAw
namespace Go.Proofs.YthngdaeiopgigaaDoor
open Go.RowKit
theorem number_grp (s : ByteArray) (aF : Addr) (m : Int) (n : Nat) (t : List UInt8) (hn : U64 n) (hm : (n : Int) ≤ m) : RS.number s aF m ⟨grp n ++ t, none⟩ = (n, ⟨t, none⟩) := by
  simp [RS.number, ung_complete hn, hm]
theorem bN_eq (b : Bool) : (bN b = 1 ↔ b = true) := by cases b <;> simp [bN]
/-- The bits of a byte of flags. -/
theorem pk_shr (l : List Bool) (j r : Nat) (hr : r < 8) : pk l j / 2 ^ r % 2 = bN (l.getD (8 * j + r) false) := by
  unfold pk
  have h0 := bN_le (l.getD (8 * j) false)
  have h1 := bN_le (l.getD (8 * j + 1) false)
  have h2 := bN_le (l.getD (8 * j + 2) false)
  have h3 := bN_le (l.getD (8 * j + 3) false)
  have h4 := bN_le (l.getD (8 * j + 4) false)
  have h5 := bN_le (l.getD (8 * j + 5) false)
  have h6 := bN_le (l.getD (8 * j + 6) false)
  have h7 := bN_le (l.getD (8 * j + 7) false)
  obtain rfl | rfl | rfl | rfl | rfl | rfl | rfl | rfl : r = 0 ∨ r = 1 ∨ r = 2 ∨ r = 3 ∨ r = 4 ∨ r = 5 ∨ r = 6 ∨ r = 7 := by omega
  all_goals simp only [Nat.pow_zero, Nat.pow_one, Nat.reducePow, Nat.add_zero]
  all_goals generalize bN (l.getD (8 * j) false) = b0 at *
  all_goals generalize bN (l.getD (8 * j + 1) false) = b1 at *
  all_goals generalize bN (l.getD (8 * j + 2) false) = b2 at *
  all_goals generalize bN (l.getD (8 * j + 3) false) = b3 at *
  all_goals generalize bN (l.getD (8 * j + 4) false) = b4 at *
  all_goals generalize bN (l.getD (8 * j + 5) false) = b5 at *
  all_goals generalize bN (l.getD (8 * j + 6) false) = b6 at *
  all_goals generalize bN (l.getD (8 * j + 7) false) = b7 at *
  all_goals omega
theorem getD_past (l : List Bool) (i : Nat) (h : l.length ≤ i) : l.getD i false = false := by
  rw [List.getD_eq_getElem?_getD, List.getElem?_eq_none h]; rfl
/-- No bit behind the last flag. -/
theorem pk_high (l : List Bool) : pk l (l.length / 8) / 2 ^ (l.length % 8) = 0 := by
  have hp := fun t (h : l.length ≤ 8 * (l.length / 8) + t) => getD_past l (8 * (l.length / 8) + t) h
  generalize hj : l.length / 8 = j at *
  obtain ⟨r, hr⟩ : ∃ r, l.length = 8 * j + r ∧ r < 8 := ⟨l.length % 8, by omega, by omega⟩
  obtain ⟨hr, hr8⟩ := hr
  rw [show l.length % 8 = r by omega]
  unfold pk
  have h0 := bN_le (l.getD (8 * j) false)
  have h1 := bN_le (l.getD (8 * j + 1) false)
  have h2 := bN_le (l.getD (8 * j + 2) false)
  have h3 := bN_le (l.getD (8 * j + 3) false)
  have h4 := bN_le (l.getD (8 * j + 4) false)
  have h5 := bN_le (l.getD (8 * j + 5) false)
  have h6 := bN_le (l.getD (8 * j + 6) false)
  have bf : bN false = 0 := rfl
  have e0 : l.length ≤ 8 * j → l.getD (8 * j) false = false := fun h => hp 0 (by omega)
  apply Nat.div_eq_of_lt
  obtain rfl | rfl | rfl | rfl | rfl | rfl | rfl | rfl : r = 0 ∨ r = 1 ∨ r = 2 ∨ r = 3 ∨ r = 4 ∨ r = 5 ∨ r = 6 ∨ r = 7 := by omega
  · rw [e0 (by omega), hp 1 (by omega), hp 2 (by omega), hp 3 (by omega), hp 4 (by omega), hp 5 (by omega), hp 6 (by omega), hp 7 (by omega)]; simp [bf]
  · rw [hp 1 (by omega), hp 2 (by omega), hp 3 (by omega), hp 4 (by omega), hp 5 (by omega), hp 6 (by omega), hp 7 (by omega), bf]; omega
  · rw [hp 2 (by omega), hp 3 (by omega), hp 4 (by omega), hp 5 (by omega), hp 6 (by omega), hp 7 (by omega), bf]; omega
  · rw [hp 3 (by omega), hp 4 (by omega), hp 5 (by omega), hp 6 (by omega), hp 7 (by omega), bf]; omega
  · rw [hp 4 (by omega), hp 5 (by omega), hp 6 (by omega), hp 7 (by omega), bf]; omega
  · rw [hp 5 (by omega), hp 6 (by omega), hp 7 (by omega), bf]; omega
  · rw [hp 6 (by omega), hp 7 (by omega), bf]; omega
  · rw [hp 7 (by omega), bf]; omega
theorem packL_length (fl : List Bool) : (packL fl).length = (fl.length + 7) / 8 := by simp [packL]
theorem packL_getD (fl : List Bool) (t : List UInt8) (j : Nat) (h : j < (fl.length + 7) / 8) : ((packL fl ++ t).getD j 0).toNat = pk fl j := by
  rw [List.getD_eq_getElem?_getD, List.getElem?_append_left (by rw [packL_length]; exact h)]
  simp only [packL, List.getElem?_map, List.getElem?_range h, Option.map_some, Option.getD_some]
  exact toNat_of (pk_lt _ _)
theorem unpk_packL (fl : List Bool) (t : List UInt8) : unpk (packL fl ++ t) fl.length = fl := by
  apply List.ext_getElem
  · simp [unpk]
  · intro i h1 h2
    simp only [unpk, List.getElem_map, List.getElem_range]
    rw [packL_getD fl t _ (by omega), pk_shr _ _ _ (by omega), show 8 * (i / 8) + i % 8 = i by omega, List.getD_eq_getElem?_getD, List.getElem?_eq_getElem h2]
    cases fl[i] <;> rfl
theorem lo_packL (fl : List Bool) (t : List UInt8) : lo (packL fl ++ t) fl.length = false := by
  unfold lo
  by_cases h : fl.length % 8 = 0
  · simp [h]
  · rw [packL_getD fl t _ (by omega), pk_high]; simp
/-- What is written is read as it was. -/
theorem get_enc (x : Itm) (hx : x.Ok) (e t : List UInt8) (aF : Addr) (he : x.enc = some e) : RS.get aF x.asked ⟨e ++ t, none⟩ = (x.told, ⟨t, none⟩) := by
  obtain ⟨kd, N, text, fl⟩ := x
  obtain ⟨⟨hk1, hk2⟩, ⟨hN1, hN2⟩, ht, hf⟩ := hx
  simp only at hk1 hk2 hN1 hN2 ht hf
  obtain rfl | rfl | rfl | rfl | rfl | rfl : kd = 1 ∨ kd = 2 ∨ kd = 3 ∨ kd = 4 ∨ kd = 5 ∨ kd = 6 := by omega
  · have he' : encByte N = some e := he
    unfold encByte at he'
    split at he'
    · cases he'
    · rename_i h
      simp only [Option.some.injEq] at he'
      subst he'
      show ((⟨1, _, _, _⟩ : Itm), _) = _
      have : RS.byte aF ⟨[UInt8.ofNat N.toNat] ++ t, none⟩ = (N.toNat, ⟨t, none⟩) := by
        show ((UInt8.ofNat N.toNat).toNat, _) = _
        rw [toNat_of (by omega)]; rfl
      rw [this]
      show _ = ((⟨1, N, ⟨#[]⟩, []⟩ : Itm), _)
      rw [show ((N.toNat : Nat) : Int) = N by omega]
  · have he' : encCount N = some e := he
    unfold encCount at he'
    split at he'
    · cases he'
    · rename_i h
      simp only [Option.some.injEq] at he'
      subst he'
      show ((⟨2, _, _, _⟩ : Itm), _) = _
      rw [number_grp nmCount aF _ N.toNat t (by unfold U64; omega) (by omega)]
      show _ = ((⟨2, N, ⟨#[]⟩, []⟩ : Itm), _)
      rw [show ((N.toNat : Nat) : Int) = N by omega]
  · have he' : some (grp (zig N)) = some e := he
    simp only [Option.some.injEq] at he'
    subst he'
    show ((⟨3, _, _, _⟩ : Itm), _) = _
    have hz := zig_lt N ⟨hN1, hN2⟩
    rw [number_grp nmNum aF _ (zig N) t hz (by omega), unzig_zig]
    rfl
  · have he' : some (grp text.size ++ text.data.toList) = some e := he
    simp only [Option.some.injEq] at he'
    subst he'
    have hl : text.data.toList.length = text.size := by simp
    have : RS.text aF text.size ⟨grp text.size ++ text.data.toList ++ t, none⟩ = (text.data.toList, ⟨t, none⟩) := by
      simp only [RS.text, List.append_assoc]
      rw [ung_complete (by unfold U64; omega)]
      simp only
      rw [if_pos ⟨by omega, by omega, by rw [List.length_append, hl]; omega⟩, ← hl, List.take_left, List.drop_left]
    show ((⟨4, 0, ⟨(RS.text aF text.size ⟨grp text.size ++ text.data.toList ++ t, none⟩).1.toArray⟩, []⟩ : Itm), (RS.text aF text.size ⟨grp text.size ++ text.data.toList ++ t, none⟩).2) = ((⟨4, 0, text, []⟩ : Itm), _)
    rw [this]
  · have he' : some (grp (N % 4294967296).toNat) = some e := he
    simp only [Option.some.injEq] at he'
    subst he'
    show ((⟨5, _, _, _⟩ : Itm), _) = _
    rw [number_grp nmBits aF _ (N % 4294967296).toNat t (by unfold U64; omega) (by omega)]
    show _ = ((⟨5, N % 4294967296, ⟨#[]⟩, []⟩ : Itm), _)
    rw [show (((N % 4294967296).toNat : Nat) : Int) = N % 4294967296 by omega]
  · have he' : some (packL fl) = some e := he
    simp only [Option.some.injEq] at he'
    subst he'
    have : RS.flags aF fl.length ⟨packL fl ++ t, none⟩ = (fl, ⟨t, none⟩) := by
      simp only [RS.flags, Int.toNat_natCast]
      rw [if_pos ⟨by omega, by omega, by rw [List.length_append, packL_length]; omega, lo_packL fl t⟩, unpk_packL, ← packL_length, List.drop_left]
    show ((⟨6, 0, ⟨#[]⟩, (RS.flags aF fl.length ⟨packL fl ++ t, none⟩).1⟩ : Itm), (RS.flags aF fl.length ⟨packL fl ++ t, none⟩).2) = _
    rw [this]
    rfl
/-- All items, one behind the other. -/
def encs : List (Itm × Value) → Option (List UInt8)
  | [] => some []
  | x :: t => match x.1.enc, encs t with
    | some e, some r => some (e ++ r)
    | _, _ => none
def puts (aA aL : Addr) (st : WS) (xs : List (Itm × Value)) : WS := xs.foldl (fun st x => st.putB aA aL x.1.nm x.1.enc) st
theorem puts_bad (aA aL : Addr) (s : ByteArray) (a : Addr) (xs : List (Itm × Value)) : puts aA aL (.bad s a) xs = .bad s a := by
  induction xs with
  | nil => rfl
  | cons x t ih => exact ih
theorem puts_ok (aA aL : Addr) : ∀ (xs : List (Itm × Value)) (m m' : Nat) (l l' : List UInt8), puts aA aL (.ok m l) xs = .ok m' l' → m' = m ∧ ∃ r, encs xs = some r ∧ l' = l ++ r
  | [], m, m', l, l', h => by
    cases h
    exact ⟨rfl, [], rfl, by simp⟩
  | x :: t, m, m', l, l', h => by
    have h' : puts aA aL ((WS.ok m l).putB aA aL x.1.nm x.1.enc) t = .ok m' l' := h
    cases he : x.1.enc with
    | none =>
      rw [he, show (WS.ok m l).putB aA aL x.1.nm none = .bad x.1.nm aA from rfl, puts_bad] at h'
      cases h'
    | some e =>
      rw [he, WS.putB_some] at h'
      by_cases hm : m < l.length + e.length
      · rw [show (WS.ok m l).write aL x.1.nm e = .bad x.1.nm aL from by simp [WS.write, hm], puts_bad] at h'
        cases h'
      · rw [show (WS.ok m l).write aL x.1.nm e = .ok m (l ++ e) from by simp [WS.write, hm]] at h'
        obtain ⟨h1, r, h2, h3⟩ := puts_ok aA aL t m m' (l ++ e) l' h'
        exact ⟨h1, e ++ r, by simp only [encs, he, h2], by rw [h3, List.append_assoc]⟩
theorem puts_snoc (aA aL : Addr) (st : WS) (xs : List (Itm × Value)) (x : Itm × Value) : puts aA aL st (xs ++ [x]) = (puts aA aL st xs).putB aA aL x.1.nm x.1.enc := by
  simp [puts, List.foldl_append]
theorem enc_len (x : Itm) (hx : x.Ok) (e : List UInt8) (he : x.enc = some e) : e.length ≤ 1010 := by
  obtain ⟨kd, N, text, fl⟩ := x
  obtain ⟨⟨hk1, hk2⟩, ⟨hN1, hN2⟩, ht, hf⟩ := hx
  simp only at hk1 hk2 hN1 hN2 ht hf
  obtain rfl | rfl | rfl | rfl | rfl | rfl : kd = 1 ∨ kd = 2 ∨ kd = 3 ∨ kd = 4 ∨ kd = 5 ∨ kd = 6 := by omega
  · have he' : encByte N = some e := he
    unfold encByte at he'
    split at he'
    · cases he'
    · cases he'; simp
  · have he' : encCount N = some e := he
    unfold encCount at he'
    split at he'
    · cases he'
    · cases he'
      have := grp_len10 (n := N.toNat) (by unfold U64; omega)
      omega
  · have he' : some (grp (zig N)) = some e := he
    cases he'
    have := grp_len10 (n := zig N) (zig_lt N ⟨hN1, hN2⟩)
    omega
  · have he' : some (grp text.size ++ text.data.toList) = some e := he
    cases he'
    have := grp_len10 (n := text.size) (by unfold U64; omega)
    have hl : text.data.toList.length = text.size := by simp
    rw [List.length_append, hl]; omega
  · have he' : some (grp (N % 4294967296).toNat) = some e := he
    cases he'
    have := grp_len10 (n := (N % 4294967296).toNat) (by unfold U64; omega)
    omega
  · have he' : some (packL fl) = some e := he
    cases he'
    rw [packL_length]; omega
theorem putB_len (aA aL : Addr) (st : WS) (x : Itm) (hx : x.Ok) : (st.putB aA aL x.nm x.enc).len ≤ st.len + 1010 ∧ ((st.putB aA aL x.nm x.enc).most ≤ st.most) := by
  cases st with
  | bad s a => exact ⟨Nat.zero_le _, Nat.le_refl _⟩
  | ok m l =>
    cases he : x.enc with
    | none => exact ⟨Nat.zero_le _, Nat.zero_le _⟩
    | some e =>
      have := enc_len x hx e he
      rw [WS.putB_some]
      by_cases hm : m < l.length + e.length
      · rw [show (WS.ok m l).write aL x.nm e = .bad x.nm aL from by simp [WS.write, hm]]
        exact ⟨Nat.zero_le _, Nat.zero_le _⟩
      · rw [show (WS.ok m l).write aL x.nm e = .ok m (l ++ e) from by simp [WS.write, hm]]
        simp [WS.len, WS.most]; omega
theorem puts_len (aA aL : Addr) : ∀ (xs : List (Itm × Value)) (st : WS), (∀ x ∈ xs, x.1.Ok) → (puts aA aL st xs).len ≤ st.len + 1010 * xs.length ∧ (puts aA aL st xs).most ≤ st.most
  | [], st, _ => ⟨by simp [puts], Nat.le_refl _⟩
  | x :: t, st, h => by
    obtain ⟨h1, h2⟩ := putB_len aA aL st x.1 (h x (by simp))
    obtain ⟨h3, h4⟩ := puts_len aA aL t (st.putB aA aL x.1.nm x.1.enc) (fun y hy => h y (by simp [hy]))
    refine ⟨?_, Nat.le_trans h4 h2⟩
    show (puts aA aL (st.putB aA aL x.1.nm x.1.enc) t).len ≤ _
    simp only [List.length_cons]
    omega
end Go.Proofs.YthngdaeiopgigaaDoor
