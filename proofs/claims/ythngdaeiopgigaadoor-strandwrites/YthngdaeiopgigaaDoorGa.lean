/- Contracts of the reference: what is written of a number and of a text. -/
import Derived.Test.YthngdaeiopgigaaDoorQb
namespace Go.Proofs.YthngdaeiopgigaaDoor
open Go.ChangeShapes Go.WideShapes Go.ChangeAt Go.RowKit
theorem big_no (s t : Nat) (h : s + t ≤ 1000000) : ¬ (9223372036854775807 < s + t) := by omega
theorem app_one (s : ByteArray) (n : Nat) : (s ++ ⟨#[UInt8.ofNat n]⟩ : ByteArray).data.toList = s.data.toList ++ [UInt8.ofNat n] := by simp [ByteArray.data_append]
theorem div_wrap (m n : Nat) (hn : U64 n) (h : m ≤ n) : IntKind.u64.wrap ((m : Int) / 128) = ((m / 128 : Nat) : Int) := by
  unfold U64 at hn
  rw [IntKind.wrap_u64]; omega
set_option maxHeartbeats 1600000 in
set_option maxRecDepth 100000 in
theorem rgroups_any (n : Nat) (hn : U64 n) (w : World) :
    Calls Tryd.prog 61 #[.int .u64 n] w fun e w' => (∃ s : ByteArray, e = .returned (.string s) ∧ s.data.toList = grp n) ∧ Below w.heap.size w w' := by
  have HL := hid (grp_len10 hn)
  have HU := hid hn
  clear hn
  go_enter Tryd.func61, Tryd.ntmps61
  go_wp2_with fail
  go_loopw [0, 3] (fun mm out wr => ∃ (m : Nat) (s : ByteArray), mm = .int .u64 m ∧ out = .string s ∧ m ≤ n ∧ s.data.toList ++ grp m = grp n ∧ Below w.heap.size w wr) (fun mm _ _ => (intOf mm).toNat)
  case atStart => exact ⟨n, _, rfl, rfl, Nat.le_refl _, rfl, Below.refl _ _⟩
  case round =>
    obtain ⟨m, s, rfl, rfl, hmn, hs, hb⟩ := hrel
    have E := div_wrap m n HU.out hmn
    have HMN := hid hmn
    clear hmn
    have HB := hid hb
    have HS := hid hs
    have hsz : s.size ≤ 10 := by
      have h1 := congrArg List.length hs
      have h2 := HL.out
      simp at h1
      omega
    have hss : ¬ (9223372036854775807 < s.size + 1) := by omega
    clear hs hb
    by_cases hm : m < 128
    · have C := one_byte wr m (by omega)
      have R : Hid ((s ++ ⟨#[UInt8.ofNat m]⟩ : ByteArray).data.toList = grp n) := by
        show _ = _
        rw [app_one, ← grp_lt hm]; exact HS.out
      go_wp2_with fail
      go_ret
      exact ⟨⟨_, rfl, R.out⟩, HB.out.alloc HB.out.size _⟩
    · have C := one_byte wr (m % 128 + 128) (by omega)
      have R : Hid ((s ++ ⟨#[UInt8.ofNat (m % 128 + 128)]⟩ : ByteArray).data.toList ++ grp (m / 128) = grp n) := by
        show _ = _
        rw [app_one, ← HS.out, grp_ge hm]; simp
      obtain ⟨c, hc⟩ : ∃ c, c = UInt8.ofNat (m % 128 + 128) := ⟨_, rfl⟩
      rw [show ((m % 128 + 128 : Nat) : Int) = (m : Int) % 128 + 128 by omega, ← hc] at C
      rw [← hc] at R
      clear hc
      go_wp2_with fail
      go_roundw
      case rel => exact ⟨m / 128, _, by rfl, rfl, by have := HMN.out; omega, R.out, HB.out.alloc HB.out.size _⟩
      case measure => simp [intOf]; omega
theorem ba_eq {s t : ByteArray} (h : s.data.toList = t.data.toList) : s = t := by
  cases s; cases t; congr 1; exact Array.ext' h
theorem rgroups_is (n : Nat) (hn : U64 n) (w : World) :
    Calls Tryd.prog 61 #[.int .u64 n] w fun e w' => e = .returned (.string ⟨(grp n).toArray⟩) ∧ Below w.heap.size w w' := by
  refine (rgroups_any n hn w).mono ?_
  rintro e w' ⟨⟨s, rfl, hs⟩, hb⟩
  rw [ba_eq (s := s) (t := ⟨(grp n).toArray⟩) (by simpa using hs)]
  exact ⟨rfl, hb⟩
set_option maxHeartbeats 400000 in
theorem gcount_any (n : Nat) (hn : n < 9223372036854775808) (w : World) :
    Calls Tryd.prog 39 #[.int .i64 n] w fun e w' => e = .returned (.string ⟨(grp n).toArray⟩) ∧ Below w.heap.size w w' := by
  have C := hid (rgroups_is n (by unfold U64; omega) w)
  have e : IntKind.u64.wrap (n : Int) = n := by rw [IntKind.wrap_u64]; omega
  clear hn
  go_enter Tryd.func39, Tryd.ntmps39
  go_wp2_with fail
  refine C.out.mono ?_
  rintro e w' ⟨rfl, hb⟩
  have HB := hid hb
  clear hb
  go_wp2_with fail
  go_ret
  exact ⟨rfl, HB.out⟩
theorem num_pos (n : Int) (h : I64 n) (hn : 0 ≤ n) : IntKind.u64.wrap (2 * IntKind.u64.wrap n) = (zig n : Nat) := by rw [Int.mul_comm]; exact fold_pos_eq n h hn
theorem num_neg (n : Int) (hn : n < 0) : 2 * -(n + 1) + 1 = ((zig n : Nat) : Int) := by
  unfold zig
  rw [if_pos hn]
  omega
set_option maxHeartbeats 800000 in
set_option maxRecDepth 100000 in
theorem gnum_any (n : Int) (h : I64 n) (w : World) :
    Calls Tryd.prog 40 #[.int .i64 n] w fun e w' => e = .returned (.string ⟨(grp (zig n)).toArray⟩) ∧ Below w.heap.size w w' := by
  have C := hid (rgroups_is (zig n) (zig_lt n h) w)
  by_cases hn : 0 ≤ n
  · have e := num_pos n h hn
    obtain ⟨z, hz⟩ : ∃ z, z = zig n := ⟨_, rfl⟩
    rw [← hz] at C e ⊢
    clear hz h
    go_enter Tryd.func40, Tryd.ntmps40
    go_wp2_with fail
    refine C.out.mono ?_
    rintro e w' ⟨rfl, hb⟩
    have HB := hid hb
    clear hb
    go_wp2_with fail
    go_ret
    exact ⟨rfl, HB.out⟩
  · have e := hid (num_neg n (by omega))
    obtain ⟨z, hz⟩ : ∃ z, z = zig n := ⟨_, rfl⟩
    rw [← hz] at C e ⊢
    obtain ⟨h1, h2⟩ := h
    clear hz
    go_enter Tryd.func40, Tryd.ntmps40
    go_wp2_with fail
    rw [e.out]
    refine C.out.mono ?_
    rintro e w' ⟨rfl, hb⟩
    have HB := hid hb
    clear hb
    go_wp2_with fail
    go_ret
    exact ⟨rfl, HB.out⟩
theorem app_toArray (l m : List UInt8) : ((⟨l.toArray⟩ : ByteArray) ++ ⟨m.toArray⟩) = ⟨(l ++ m).toArray⟩ := by
  apply ba_eq; simp [ByteArray.data_append]
set_option maxHeartbeats 400000 in
theorem gtext_any (s : ByteArray) (hs : s.size ≤ 1000) (w : World) :
    Calls Tryd.prog 41 #[.string s] w fun e w' => e = .returned (.string ⟨(grp s.size ++ s.data.toList).toArray⟩) ∧ Below w.heap.size w w' := by
  have C := hid (gcount_any s.size (by omega) w)
  have hl : (grp s.size).length ≤ 10 := grp_len10 (by unfold U64; omega)
  have hz : (⟨(grp s.size).toArray⟩ : ByteArray).size = (grp s.size).length := by show (grp s.size).toArray.size = _; simp
  have hb : ¬ (9223372036854775807 < (⟨(grp s.size).toArray⟩ : ByteArray).size + s.size) := by omega
  have R : Hid ((⟨(grp s.size).toArray⟩ ++ s : ByteArray) = ⟨(grp s.size ++ s.data.toList).toArray⟩) := by
    show _ = _
    apply ba_eq; simp [ByteArray.data_append]
  obtain ⟨t, ht⟩ : ∃ t, t = (⟨(grp s.size).toArray⟩ : ByteArray) := ⟨_, rfl⟩
  rw [← ht] at C hb R
  clear ht hz hl
  go_enter Tryd.func41, Tryd.ntmps41
  go_wp2_with fail
  refine C.out.mono ?_
  rintro e w' ⟨rfl, hb⟩
  have HB := hid hb
  clear hb
  go_wp2_with fail
  go_ret
  exact ⟨by rw [← R.out]; rfl, HB.out⟩
end Go.Proofs.YthngdaeiopgigaaDoor
