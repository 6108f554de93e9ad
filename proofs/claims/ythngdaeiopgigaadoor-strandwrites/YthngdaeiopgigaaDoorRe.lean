/- Contracts of strand's reader: Byte, Count, Num, Bits, Left, End. -/
import Derived.Test.YthngdaeiopgigaaDoorRc
import Derived.Test.YthngdaeiopgigaaDoorWd
namespace Go.Proofs.YthngdaeiopgigaaDoor
open Go.ChangeShapes Go.WideShapes Go.ChangeAt Go.RowKit
theorem hid {p : Prop} (h : p) : Hid p := h
theorem toList_data (s : ByteArray) : s.toList = s.data.toList := by
  obtain ⟨⟨l⟩⟩ := s
  simp
theorem number_le (s : ByteArray) (aF : Addr) (m : Int) (st : RS) (hm : 0 ≤ m) : (((st.number s aF m).1 : Nat) : Int) ≤ m := by
  obtain ⟨l, err⟩ := st
  cases err with
  | some q => simpa [RS.number] using hm
  | none =>
    cases hu : ung l with
    | none => simpa [RS.number, hu] using hm
    | some q =>
      obtain ⟨n, t⟩ := q
      by_cases h : (n : Int) ≤ m
      · simp [RS.number, hu, h]
      · simpa [RS.number, hu, h] using hm
theorem number_u64 (s : ByteArray) (aF : Addr) (m : Int) (st : RS) : U64 (st.number s aF m).1 := by
  obtain ⟨l, err⟩ := st
  cases err with
  | some q => simp [RS.number, U64]
  | none =>
    cases hu : ung l with
    | none => simp [RS.number, hu, U64]
    | some q =>
      obtain ⟨n, t⟩ := q
      by_cases h : (n : Int) ≤ m
      · simpa [RS.number, hu, h] using (ung_sound hu).2
      · simp [RS.number, hu, h, U64]
theorem unfold_odd (n : Nat) (h : n < 18446744073709551616) (ho : n % 2 = 1) : bits .xor .i64 (-1) (wrap64 ((n : Int) / 2)) = unzig n := by
  have e : wrap64 ((n : Int) / 2) = ((n / 2 : Nat) : Int) := by rw [IntWalk.wrap64_in _ (by omega)]; omega
  rw [e, not_i64 _ (by unfold I64; omega)]
  unfold unzig; rw [if_pos ho]
theorem unfold_even (n : Nat) (h : n < 18446744073709551616) (ho : ¬ n % 2 = 1) : wrap64 ((n : Int) / 2) = unzig n := by
  rw [IntWalk.wrap64_in _ (by omega)]
  unfold unzig; rw [if_neg ho]; omega
set_option maxHeartbeats 400000 in
theorem unfold_any (n : Nat) (hn : U64 n) (w : World) :
    Calls Tryd.prog 57 #[.int .u64 n] w fun e w' => e = .returned (.int .i64 (unzig n)) ∧ w = w' := by
  have hn0 : (0 : Int) ≤ n := by omega
  by_cases h : n % 2 = 1
  · rw [← unfold_odd n hn h]
    clear hn
    have h1 : (((n : Int) % 2) == 1) = true := beq_iff_eq.2 (by omega)
    go_enter Tryd.func57, Tryd.ntmps57
    go_wp2
    go_ret
    exact ⟨rfl, rfl⟩
  · rw [← unfold_even n hn h]
    clear hn
    have h1 : (((n : Int) % 2) == 1) = false := beq_eq_false_iff_ne.2 (by omega)
    go_enter Tryd.func57, Tryd.ntmps57
    go_wp2
    go_ret
    exact ⟨rfl, rfl⟩
set_option maxHeartbeats 400000 in
set_option maxRecDepth 100000 in
theorem rcount_any (b : Nat) (st : RS) (aF : Addr) (w : World) (hR : Rd w b st) (hp : RPre w st aF) :
    Calls Tryd.prog 28 #[.pointer (some ⟨b, 0, none⟩)] w fun e w' => e = .returned (.int .i64 (st.number nmCount aF 9223372036854775807).1) ∧ Rd w' b (st.number nmCount aF 9223372036854775807).2 ∧ Kp (fun k => k = b) w w' := by
  have hle := number_le nmCount aF 9223372036854775807 st (by decide)
  have hwr : wrap64 ((st.number nmCount aF 9223372036854775807).1 : Int) = (st.number nmCount aF 9223372036854775807).1 := IntWalk.wrap64_in _ ⟨by omega, hle⟩
  have hc := number_any b st nmCount 9223372036854775807 aF w hR hp
  generalize st.number nmCount aF 9223372036854775807 = q at *
  clear hle
  have HC := hid hc
  clear hc
  go_enter Tryd.func28, Tryd.ntmps28
  go_wp2_with (go_at_call 56; refine (HC.out).mono ?_; rintro e w' ⟨rfl, hR', hK'⟩)
  go_ret
  refine ⟨?_, hR', hK'⟩
  show Ending.returned (.int .i64 (wrap64 (q.1 : Int))) = _
  rw [hwr]
set_option maxHeartbeats 400000 in
set_option maxRecDepth 100000 in
theorem rnum_any (b : Nat) (st : RS) (aF : Addr) (w : World) (hR : Rd w b st) (hp : RPre w st aF) :
    Calls Tryd.prog 29 #[.pointer (some ⟨b, 0, none⟩)] w fun e w' => e = .returned (.int .i64 (unzig (st.number nmNum aF 18446744073709551615).1)) ∧ Rd w' b (st.number nmNum aF 18446744073709551615).2 ∧ Kp (fun k => k = b) w w' := by
  have hu := number_u64 nmNum aF 18446744073709551615 st
  have hc := number_any b st nmNum 18446744073709551615 aF w hR hp
  generalize st.number nmNum aF 18446744073709551615 = q at *
  have HC := hid hc
  clear hc
  go_enter Tryd.func29, Tryd.ntmps29
  go_wp2_with (first | (go_at_call 56; refine (HC.out).mono ?_; rintro e w' ⟨rfl, hR', hK'⟩) | (go_at_call 57; refine (unfold_any _ hu _).mono ?_; rintro e w' ⟨rfl, rfl⟩))
  go_ret
  exact ⟨rfl, hR', hK'⟩
set_option maxHeartbeats 400000 in
set_option maxRecDepth 100000 in
theorem rbits_any (b : Nat) (st : RS) (aF : Addr) (w : World) (hR : Rd w b st) (hp : RPre w st aF) :
    Calls Tryd.prog 32 #[.pointer (some ⟨b, 0, none⟩)] w fun e w' => e = .returned (.int .u32 (st.number nmBits aF 4294967295).1) ∧ Rd w' b (st.number nmBits aF 4294967295).2 ∧ Kp (fun k => k = b) w w' := by
  have hle := number_le nmBits aF 4294967295 st (by decide)
  have hwr : IntKind.u32.wrap ((st.number nmBits aF 4294967295).1 : Int) = (st.number nmBits aF 4294967295).1 := by rw [IntKind.wrap_u32']; omega
  have hc := number_any b st nmBits 4294967295 aF w hR hp
  generalize st.number nmBits aF 4294967295 = q at *
  clear hle
  have HC := hid hc
  clear hc
  go_enter Tryd.func32, Tryd.ntmps32
  go_wp2_with (go_at_call 56; refine (HC.out).mono ?_; rintro e w' ⟨rfl, hR', hK'⟩)
  go_ret
  exact ⟨rfl, hR', hK'⟩
def RS.byte (aF : Addr) (st : RS) : Nat × RS := match st.err with
  | some _ => (0, st)
  | none => match st.rest with
    | [] => (0, st.fail nmByte aF)
    | c :: t => (c.toNat, ⟨t, none⟩)
set_option maxHeartbeats 800000 in
set_option maxRecDepth 100000 in
theorem rbyte_any (b : Nat) (st : RS) (aF : Addr) (w : World) (hR : Rd w b st) (hp : RPre w st aF) :
    Calls Tryd.prog 27 #[.pointer (some ⟨b, 0, none⟩)] w fun e w' => e = .returned (.int .i64 (st.byte aF).1) ∧ Rd w' b (st.byte aF).2 ∧ Kp (fun k => k = b) w w' := by
  obtain ⟨l, err⟩ := st
  cases err with
  | some q =>
    obtain ⟨s', a⟩ := q
    have c1 := hR.c1_yes
    rw [show RS.byte aF ⟨l, some (s', a)⟩ = (0, ⟨l, some (s', a)⟩) from rfl]
    go_enter Tryd.func27, Tryd.ntmps27
    go_wp2_with (go_at_call 53; refine (rclosed_yes _ a _ ?_).mono ?_; exact c1; rintro e w' ⟨rfl, rfl⟩)
    go_ret
    exact ⟨rfl, hR, Kp.refl _ _⟩
  | none =>
    have c1 := hR.c1_no
    obtain ⟨r, hr, hb⟩ := id hR
    simp only at hr
    subst hr
    have c2 : w.cell? ⟨b, 2, none⟩ = some (.string r) := blk_cell hb 2
    have hF := hp.hF
    cases hl : r.data.toList with
    | nil =>
      have hre : r.toList.isEmpty = true := by rw [toList_data, hl]; rfl
      rw [hl] at hR
      rw [show RS.byte aF ⟨[], none⟩ = (0, ⟨[], some (nmByte, aF)⟩) from rfl]
      go_enter Tryd.func27, Tryd.ntmps27
      go_wp2_with (first | (go_at_call 53; refine (rclosed_no _ _ ?_).mono ?_; exact c1; rintro e w' ⟨rfl, rfl⟩) | (go_at_call 54; refine (refuse_any b _ nmByte aF _ hR hF).mono ?_; rintro e w' ⟨rfl, hR', hK'⟩))
      go_ret
      exact ⟨rfl, hR', hK'⟩
    | cons c t =>
      have hre : r.toList.isEmpty = false := by rw [toList_data, hl]; rfl
      have hrs : 1 ≤ r.size := by
        have := congrArg List.length hl
        simp at this; omega
      have ht : (r.extract 1 r.size).data.toList = t := by rw [extract_rest, hl]; rfl
      have hix : ∀ w, (Instr.index 9 (.string (r.extract 0 1)) (.int .i64 0)).run Tryd.prog w = .ok (.int .u8 c.toNat) w := by
        intro w
        have h1 : (r.extract 0 1).data.toList = [c] := by rw [extract_list, hl]; simp
        have h2 : 0 < (r.extract 0 1).size := by
          have := congrArg List.length h1
          simp at this ⊢; omega
        obtain ⟨c', hd, hx⟩ := idx_string (r.extract 0 1) 0 h2
        rw [h1] at hd
        simp at hd
        rw [hd]
        exact hx w
      have hc2 : c.toNat < 256 := c.toNat_lt
      rw [show RS.byte aF ⟨c :: t, none⟩ = (c.toNat, ⟨t, none⟩) from rfl]
      generalize c.toNat = k at *
      have HT : Hid ((r.extract 1 r.size).data.toList = t) := ht
      clear ht hl
      go_enter Tryd.func27, Tryd.ntmps27
      go_wp2_with (first | (go_at_call 53; refine (rclosed_no _ _ ?_).mono ?_; exact c1; rintro e w' ⟨rfl, rfl⟩) | (go_at_call 55; refine (take_any b 1 r _ hb hrs).mono ?_; rintro e w' ⟨rfl, rfl⟩))
      go_ret
      exact ⟨rfl, rd_took hb HT.out⟩
set_option maxHeartbeats 400000 in
theorem left_any (b : Nat) (st : RS) (w : World) (hR : Rd w b st) :
    Calls Tryd.prog 20 #[.pointer (some ⟨b, 0, none⟩)] w fun e w' => e = .returned (.int .i64 st.rest.length) ∧ w = w' := by
  obtain ⟨r, hr, hb⟩ := id hR
  have c2 : w.cell? ⟨b, 2, none⟩ = some (.string r) := blk_cell hb 2
  have e1 : (st.rest.length : Int) = r.size := by rw [← hr]; simp
  rw [e1]
  clear hb hR hr
  go_enter Tryd.func20, Tryd.ntmps20
  go_wp2
  go_ret
  exact ⟨rfl, rfl⟩
set_option maxHeartbeats 800000 in
set_option maxRecDepth 100000 in
theorem end_ok (b : Nat) (w : World) (hR : Rd w b ⟨[], none⟩) :
    Calls Tryd.prog 21 #[.pointer (some ⟨b, 0, none⟩)] w fun e w' => e = .returned .nilIface ∧ w = w' := by
  obtain ⟨r, hr, hb⟩ := id hR
  have c1 := hR.c1_no
  have c2 : w.cell? ⟨b, 2, none⟩ = some (.string r) := blk_cell hb 2
  have hre : r.toList.isEmpty = true := by rw [toList_data, hr]; rfl
  go_enter Tryd.func21, Tryd.ntmps21
  go_wp2_with (go_at_call 37; refine (wrong_no _ _ ?_).mono ?_; exact c1; rintro e w' ⟨rfl, rfl⟩)
  go_ret
  exact ⟨rfl, rfl⟩
def nmEnd : ByteArray := ⟨#[101, 110, 100]⟩
set_option maxHeartbeats 800000 in
set_option maxRecDepth 100000 in
theorem end_left (b : Nat) (c : UInt8) (t : List UInt8) (aF : Addr) (w : World) (hR : Rd w b ⟨c :: t, none⟩) (hp : RPre w ⟨c :: t, none⟩ aF) :
    Calls Tryd.prog 21 #[.pointer (some ⟨b, 0, none⟩)] w fun e w' => ∃ v, e = .returned v ∧ IsBlame w' v nmEnd aF ∧ Below w.heap.size w w' := by
  obtain ⟨r, hr, hb⟩ := id hR
  have c1 := hR.c1_no
  have c2 : w.cell? ⟨b, 2, none⟩ = some (.string r) := blk_cell hb 2
  have hre : r.toList.isEmpty = false := by rw [toList_data, hr]; rfl
  have hF := hp.hF
  go_enter Tryd.func21, Tryd.ntmps21
  go_wp2_with (first | (go_at_call 37; refine (wrong_no _ _ ?_).mono ?_; exact c1; rintro e w' ⟨rfl, rfl⟩) | (go_at_call 45; refine (at_any _ _ _).mono ?_; rintro e w' ⟨rfl, rfl⟩))
  go_ret
  exact ⟨_, rfl, ⟨_, rfl, blk_new w _⟩, (Below.refl _ _).alloc (Nat.le_refl _) _⟩
set_option maxHeartbeats 800000 in
set_option maxRecDepth 100000 in
theorem end_bad (b : Nat) (l : List UInt8) (s : ByteArray) (a : Addr) (w : World) (hR : Rd w b ⟨l, some (s, a)⟩) :
    Calls Tryd.prog 21 #[.pointer (some ⟨b, 0, none⟩)] w fun e w' => ∃ v, e = .returned v ∧ IsBlame w' v s a ∧ Below w.heap.size w w' := by
  obtain ⟨r, hr, hb⟩ := id hR
  have c0 : w.cell? ⟨b, 0, none⟩ = some (.string s) := blk_cell hb 0
  have c1 := hR.c1_yes
  go_enter Tryd.func21, Tryd.ntmps21
  go_wp2_with (first | (go_at_call 37; refine (wrong_yes _ a _ ?_).mono ?_; exact c1; rintro e w' ⟨rfl, rfl⟩) | (go_at_call 38; refine (told_any _ s a _ ?_ ?_).mono ?_; exact c0; exact c1; rintro e w' ⟨v1, rfl, hbl, hbel⟩))
  go_ret
  exact ⟨_, rfl, hbl, hbel⟩
end Go.Proofs.YthngdaeiopgigaaDoor
