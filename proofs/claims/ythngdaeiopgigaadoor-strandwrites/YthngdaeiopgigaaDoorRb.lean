/- Contracts of strand's reader: the groups of a number. -/
import Derived.Test.YthngdaeiopgigaaDoorRa
namespace Go.Proofs.YthngdaeiopgigaaDoor
open Go.ChangeShapes Go.WideShapes Go.ChangeAt Go.RowKit
def ungR (l : List UInt8) : Value := match ung l with | some (n, _) => .tuple #[.int .u64 n, .int .i64 (grp n).length] | none => .tuple #[.int .u64 0, .int .i64 0]
theorem idx_string (s : ByteArray) (i : Nat) (h : i < s.size) : ∃ c : UInt8, s.data.toList.drop i = c :: s.data.toList.drop (i + 1) ∧ ∀ w, (Instr.index 9 (.string s) (.int .i64 i)).run Tryd.prog w = .ok (.int .u8 c.toNat) w := by
  refine ⟨s[i], ?_, ?_⟩
  · rw [List.drop_eq_getElem_cons (by simpa using h)]; rfl
  · intro w
    rw [run_index_string w 9 s .i64 i Tryd.underlying9, dif_pos ⟨by omega, by omega⟩]
    simp
theorem or_shift (acc k i : Nat) (ha : acc < 128 ^ i) (hk : k % 128 * 128 ^ i < 18446744073709551616) (hi : i ≤ 9) :
    bits .or .u64 (acc : Int) (IntKind.u64.wrap ((k : Int) % 128 * 2 ^ (i * 7))) = ((acc + k % 128 * 128 ^ i : Nat) : Int) := by
  have hp : (2 : Nat) ^ (i * 7) = 128 ^ i := by rw [Nat.mul_comm, Nat.pow_mul]
  have e1 : (k : Int) % 128 * 2 ^ (i * 7) = ((k % 128 * 128 ^ i : Nat) : Int) := by
    rw [← hp, Int.natCast_mul, Int.natCast_emod, Int.natCast_pow]; rfl
  have hb : 128 ^ i ≤ 128 ^ 9 := Nat.pow_le_pow_right (by decide) hi
  have h9 : (128 : Nat) ^ 9 = 9223372036854775808 := by decide
  rw [e1, IntKind.wrap_u64, show ((k % 128 * 128 ^ i : Nat) : Int) % 18446744073709551616 = ((k % 128 * 128 ^ i : Nat) : Int) from by omega, u64_or_nat _ _ (by omega) hk, Nat.or_comm, nat_join (i * 7) _ _ (by rw [hp]; exact Nat.mul_mod_left _ _) (by rw [hp]; exact ha), Nat.add_comm]
theorem acc_next (acc k i : Nat) (ha : acc < 128 ^ i) : acc + k % 128 * 128 ^ i < 128 ^ (i + 1) := by
  have h1 : k % 128 ≤ 127 := by omega
  have h2 : k % 128 * 128 ^ i ≤ 127 * 128 ^ i := Nat.mul_le_mul_right _ h1
  rw [Nat.pow_succ]; omega
theorem pow_small (k i : Nat) (hi : i ≤ 8) : k % 128 * 128 ^ i < 9223372036854775808 := by
  have h1 : k % 128 ≤ 127 := by omega
  have hb : 128 ^ i ≤ 128 ^ 8 := Nat.pow_le_pow_right (by decide) hi
  have h9 : (128 : Nat) ^ 8 = 72057594037927936 := by decide
  have h2 : k % 128 * 128 ^ i ≤ 127 * 128 ^ 8 := Nat.mul_le_mul h1 hb
  omega
theorem acc_small (acc i : Nat) (ha : acc < 128 ^ i) (hi : i ≤ 9) : acc < 9223372036854775808 := by
  have hb : 128 ^ i ≤ 128 ^ 9 := Nat.pow_le_pow_right (by decide) hi
  have h9 : (128 : Nat) ^ 9 = 9223372036854775808 := by decide
  omega
theorem ungR_none {l : List UInt8} (h : ungL 10 l = none) : ungR l = .tuple #[.int .u64 0, .int .i64 0] := by simp [ungR, ung, h]
theorem ungR_great {l t : List UInt8} {n : Nat} (h : ungL 10 l = some (n, t)) (hn : ¬ n < 18446744073709551616) : ungR l = .tuple #[.int .u64 0, .int .i64 0] := by
  unfold ungR ung; rw [h]; simp only; rw [if_neg hn]
theorem ungR_some {l t : List UInt8} {n i : Nat} (h : ungL 10 l = some (n, t)) (hn : n < 18446744073709551616) (hl : t = l.drop (i + 1)) (hi : i < l.length) : ungR l = .tuple #[.int .u64 n, .int .i64 (i + 1 : Nat)] := by
  have e := (ungL_sound 10 l n t h).1
  have e2 : (grp n).length = i + 1 := by
    have := congrArg List.length e
    rw [List.length_append, hl, List.length_drop] at this
    omega
  unfold ungR ung; rw [h]; simp only; rw [if_pos hn]; simp only; rw [e2]
theorem ret_ung {l : List UInt8} {v : Value} {w : World} (h : ungR l = v) : Ending.returned v = Ending.returned (ungR l) ∧ w = w := ⟨by rw [h], rfl⟩
set_option maxHeartbeats 1600000 in
set_option maxRecDepth 100000 in
theorem ungroup_short (s : ByteArray) (hm : s.size ≤ 10) (w : World) :
    Calls Tryd.prog 58 #[.string s] w fun e w' => e = .returned (ungR s.data.toList) ∧ w = w' := by
  have HSL : Hid (s.data.toList.length = s.size) := by show s.data.toList.length = s.size; simp
  go_enter Tryd.func58, Tryd.ntmps58
  go_wp2
  go_loop [2, 9] (fun num x => ∃ (i acc : Nat), x = .int .i64 i ∧ num = .int .u64 acc ∧ i ≤ s.size ∧ i ≤ 10 ∧ acc < 128 ^ i ∧ ungL 10 s.data.toList = ungAt i acc (s.data.toList.drop i)) (fun _ x => 10 - (intOf x).toNat)
  case atStart => exact ⟨0, 0, rfl, rfl, Nat.zero_le _, Nat.zero_le _, by decide, (ungAt_zero _).symm⟩
  case round =>
    obtain ⟨i, acc, rfl, rfl, hi, hi10, hacc, hung⟩ := hrel
    have HU : Hid (ungL 10 s.data.toList = ungAt i acc (s.data.toList.drop i)) := hung
    have HA : Hid (acc < 128 ^ i) := hacc
    clear hung hacc
    by_cases hlt : i < s.size ∧ i < 10
    · obtain ⟨hlt, hlt10⟩ := hlt
      obtain ⟨c, hd, hsi⟩ := idx_string s i hlt
      have hc2 : c.toNat < 256 := c.toNat_lt
      have HD : Hid (s.data.toList.drop i = c :: s.data.toList.drop (i + 1)) := hd
      clear hd
      by_cases h9 : i = 9
      · subst h9
        have hsi9 : ∀ w, (Instr.index 9 (.string s) (.int .i64 9)).run Tryd.prog w = .ok (.int .u8 c.toNat) w := hsi
        clear hsi
        by_cases h1 : 1 < c.toNat
        · have HF : Hid (ungR s.data.toList = .tuple #[.int .u64 0, .int .i64 0]) := by
            by_cases h128 : c.toNat < 128
            · have e := HU.out
              rw [HD.out, ungAt_last (by decide) h128, if_neg (by omega)] at e
              refine ungR_great e ?_
              have : (128 : Nat) ^ 9 = 9223372036854775808 := by decide
              rw [this]; omega
            · have e := HU.out
              rw [HD.out, ungAt_more (by decide) h128, ungAt_ten] at e
              exact ungR_none e
          generalize hk : c.toNat = k at *
          clear hk
          go_wp2
          go_ret2
          exact ret_ung HF.out
        · by_cases h0 : c.toNat = 0
          · have HF : Hid (ungR s.data.toList = .tuple #[.int .u64 0, .int .i64 0]) := by
              have e := HU.out
              rw [HD.out, ungAt_last (by decide) (by omega), if_pos (by omega)] at e
              exact ungR_none e
            rw [h0] at hsi9
            go_wp2
            go_ret2
            exact ret_ung HF.out
          · have h1e : c.toNat = 1 := by omega
            have HF : Hid (ungR s.data.toList = .tuple #[.int .u64 (acc + 1 % 128 * 128 ^ 9 : Nat), .int .i64 (9 + 1 : Nat)]) := by
              have e := HU.out
              rw [HD.out, ungAt_last (by decide) (by omega), if_neg (by omega), h1e] at e
              have ha := acc_small acc 9 HA.out (by decide)
              have h9 : (128 : Nat) ^ 9 = 9223372036854775808 := by decide
              refine ungR_some (n := acc + 1 % 128 * 128 ^ 9) (by rw [e, Nat.mul_comm]) (by rw [h9]; omega) rfl (by rw [HSL.out]; omega)
            rw [h1e] at hsi9
            have HO : Hid (bits .or .u64 (acc : Int) (IntKind.u64.wrap 9223372036854775808) = ((acc + 1 % 128 * 128 ^ 9 : Nat) : Int)) := or_shift acc 1 9 HA.out (by decide) (by decide)
            go_wp2
            go_ret2
            refine ret_ung ?_
            rw [HF.out, ← HO.out]; rfl
      · have h9b : ((i : Int) == 9) = false := by simp; omega
        by_cases h128 : c.toNat < 128
        · by_cases h0 : c.toNat = 0
          · by_cases hi0 : i = 0
            · subst hi0
              have HF : Hid (ungR s.data.toList = .tuple #[.int .u64 (acc + 0 % 128 * 128 ^ 0 : Nat), .int .i64 (0 + 1 : Nat)]) := by
                have e := HU.out
                rw [HD.out, ungAt_last (by decide) (by omega), if_neg (by omega), h0] at e
                have ha := acc_small acc 0 HA.out (by decide)
                refine ungR_some (n := acc + 0 % 128 * 128 ^ 0) (by rw [e, Nat.mul_comm]) (by omega) rfl (by rw [HSL.out]; omega)
              rw [h0] at hsi
              have hsi0 : ∀ w, (Instr.index 9 (.string s) (.int .i64 0)).run Tryd.prog w = .ok (.int .u8 0) w := hsi
              have HO : Hid (bits .or .u64 (acc : Int) (IntKind.u64.wrap 0) = ((acc + 0 % 128 * 128 ^ 0 : Nat) : Int)) := or_shift acc 0 0 HA.out (by decide) (by decide)
              clear hsi
              go_wp2
              go_ret2
              refine ret_ung ?_
              rw [HF.out, ← HO.out]; rfl
            · have HF : Hid (ungR s.data.toList = .tuple #[.int .u64 0, .int .i64 0]) := by
                have e := HU.out
                rw [HD.out, ungAt_last (by omega) (by omega), if_pos (by omega)] at e
                exact ungR_none e
              rw [h0] at hsi
              go_wp2
              go_ret2
              exact ret_ung HF.out
          · have h0b : ((c.toNat : Int) == 0) = false := by simp; omega
            have HF : Hid (ungR s.data.toList = .tuple #[.int .u64 (acc + c.toNat % 128 * 128 ^ i : Nat), .int .i64 (i + 1 : Nat)]) := by
              have e := HU.out
              rw [HD.out, ungAt_last (by omega) (by omega), if_neg (by omega)] at e
              have ha := acc_small acc i HA.out (by omega)
              have hp := pow_small c.toNat i (by omega)
              refine ungR_some (n := acc + c.toNat % 128 * 128 ^ i) (by rw [e, Nat.mul_comm, Nat.mod_eq_of_lt h128]) (by omega) rfl (by rw [HSL.out]; omega)
            have HO : Hid (bits .or .u64 (acc : Int) (IntKind.u64.wrap ((c.toNat : Int) % 128 * 2 ^ (i * 7))) = ((acc + c.toNat % 128 * 128 ^ i : Nat) : Int)) := or_shift acc c.toNat i HA.out (by have := pow_small c.toNat i (by omega); omega) (by omega)
            clear HD HU
            generalize hk : c.toNat = k at *
            clear hk
            go_wp2
            go_ret2
            refine ret_ung ?_
            rw [HF.out, ← HO.out]; rfl
        · have hor := or_shift acc c.toNat i HA.out (by have := pow_small c.toNat i (by omega); omega) (by omega)
          have HN := acc_next acc c.toNat i HA.out
          have e := HU.out
          rw [HD.out, ungAt_more (by omega) h128] at e
          have HE : Hid (ungL 10 s.data.toList = ungAt (i + 1) (acc + c.toNat % 128 * 128 ^ i) (s.data.toList.drop (i + 1))) := e
          have HO : Hid (bits .or .u64 (acc : Int) (IntKind.u64.wrap ((c.toNat : Int) % 128 * 2 ^ (i * 7))) = ((acc + c.toNat % 128 * 128 ^ i : Nat) : Int)) := hor
          have HN' : Hid (acc + c.toNat % 128 * 128 ^ i < 128 ^ (i + 1)) := HN
          clear e hor HN HD HU
          generalize hk : c.toNat = k at *
          clear hk
          go_wp2
          exact ⟨⟨i + 1, acc + k % 128 * 128 ^ i, by go_num, by rw [HO.out], by omega, by omega, HN'.out, HE.out⟩, by simp [intOf]; omega⟩
    · have HF : Hid (ungR s.data.toList = .tuple #[.int .u64 0, .int .i64 0]) := by
        have e := HU.out
        by_cases h : i < s.size
        · have : i = 10 := by omega
          subst this
          rw [ungAt_ten] at e
          exact ungR_none e
        · rw [List.drop_of_length_le (by rw [HSL.out]; omega), ungAt_nil] at e
          exact ungR_none e
      go_wp2
      go_ret2
      exact ret_ung HF.out
set_option maxHeartbeats 1600000 in
set_option maxRecDepth 100000 in
theorem ungroup_long (s : ByteArray) (hm : 10 < s.size) (hs : s.size ≤ 10000000) (w : World) :
    Calls Tryd.prog 58 #[.string s] w fun e w' => e = .returned (ungR s.data.toList) ∧ w = w' := by
  have HSL : Hid (s.data.toList.length = s.size) := by show s.data.toList.length = s.size; simp
  go_enter Tryd.func58, Tryd.ntmps58
  go_wp2
  go_loop [2, 9] (fun num x => ∃ (i acc : Nat), x = .int .i64 i ∧ num = .int .u64 acc ∧ i ≤ s.size ∧ i ≤ 10 ∧ acc < 128 ^ i ∧ ungL 10 s.data.toList = ungAt i acc (s.data.toList.drop i)) (fun _ x => 10 - (intOf x).toNat)
  case atStart => exact ⟨0, 0, rfl, rfl, Nat.zero_le _, Nat.zero_le _, by decide, (ungAt_zero _).symm⟩
  case round =>
    obtain ⟨i, acc, rfl, rfl, hi, hi10, hacc, hung⟩ := hrel
    have HU : Hid (ungL 10 s.data.toList = ungAt i acc (s.data.toList.drop i)) := hung
    have HA : Hid (acc < 128 ^ i) := hacc
    clear hung hacc
    by_cases hlt : i < s.size ∧ i < 10
    · obtain ⟨hlt, hlt10⟩ := hlt
      obtain ⟨c, hd, hsi⟩ := idx_string s i hlt
      have hc2 : c.toNat < 256 := c.toNat_lt
      have HD : Hid (s.data.toList.drop i = c :: s.data.toList.drop (i + 1)) := hd
      clear hd
      by_cases h9 : i = 9
      · subst h9
        have hsi9 : ∀ w, (Instr.index 9 (.string s) (.int .i64 9)).run Tryd.prog w = .ok (.int .u8 c.toNat) w := hsi
        clear hsi
        by_cases h1 : 1 < c.toNat
        · have HF : Hid (ungR s.data.toList = .tuple #[.int .u64 0, .int .i64 0]) := by
            by_cases h128 : c.toNat < 128
            · have e := HU.out
              rw [HD.out, ungAt_last (by decide) h128, if_neg (by omega)] at e
              refine ungR_great e ?_
              have : (128 : Nat) ^ 9 = 9223372036854775808 := by decide
              rw [this]; omega
            · have e := HU.out
              rw [HD.out, ungAt_more (by decide) h128, ungAt_ten] at e
              exact ungR_none e
          generalize hk : c.toNat = k at *
          clear hk
          go_wp2
          go_ret2
          exact ret_ung HF.out
        · by_cases h0 : c.toNat = 0
          · have HF : Hid (ungR s.data.toList = .tuple #[.int .u64 0, .int .i64 0]) := by
              have e := HU.out
              rw [HD.out, ungAt_last (by decide) (by omega), if_pos (by omega)] at e
              exact ungR_none e
            rw [h0] at hsi9
            go_wp2
            go_ret2
            exact ret_ung HF.out
          · have h1e : c.toNat = 1 := by omega
            have HF : Hid (ungR s.data.toList = .tuple #[.int .u64 (acc + 1 % 128 * 128 ^ 9 : Nat), .int .i64 (9 + 1 : Nat)]) := by
              have e := HU.out
              rw [HD.out, ungAt_last (by decide) (by omega), if_neg (by omega), h1e] at e
              have ha := acc_small acc 9 HA.out (by decide)
              have h9 : (128 : Nat) ^ 9 = 9223372036854775808 := by decide
              refine ungR_some (n := acc + 1 % 128 * 128 ^ 9) (by rw [e, Nat.mul_comm]) (by rw [h9]; omega) rfl (by rw [HSL.out]; omega)
            rw [h1e] at hsi9
            have HO : Hid (bits .or .u64 (acc : Int) (IntKind.u64.wrap 9223372036854775808) = ((acc + 1 % 128 * 128 ^ 9 : Nat) : Int)) := or_shift acc 1 9 HA.out (by decide) (by decide)
            go_wp2
            go_ret2
            refine ret_ung ?_
            rw [HF.out, ← HO.out]; rfl
      · have h9b : ((i : Int) == 9) = false := by simp; omega
        by_cases h128 : c.toNat < 128
        · by_cases h0 : c.toNat = 0
          · by_cases hi0 : i = 0
            · subst hi0
              have HF : Hid (ungR s.data.toList = .tuple #[.int .u64 (acc + 0 % 128 * 128 ^ 0 : Nat), .int .i64 (0 + 1 : Nat)]) := by
                have e := HU.out
                rw [HD.out, ungAt_last (by decide) (by omega), if_neg (by omega), h0] at e
                have ha := acc_small acc 0 HA.out (by decide)
                refine ungR_some (n := acc + 0 % 128 * 128 ^ 0) (by rw [e, Nat.mul_comm]) (by omega) rfl (by rw [HSL.out]; omega)
              rw [h0] at hsi
              have hsi0 : ∀ w, (Instr.index 9 (.string s) (.int .i64 0)).run Tryd.prog w = .ok (.int .u8 0) w := hsi
              have HO : Hid (bits .or .u64 (acc : Int) (IntKind.u64.wrap 0) = ((acc + 0 % 128 * 128 ^ 0 : Nat) : Int)) := or_shift acc 0 0 HA.out (by decide) (by decide)
              clear hsi
              go_wp2
              go_ret2
              refine ret_ung ?_
              rw [HF.out, ← HO.out]; rfl
            · have HF : Hid (ungR s.data.toList = .tuple #[.int .u64 0, .int .i64 0]) := by
                have e := HU.out
                rw [HD.out, ungAt_last (by omega) (by omega), if_pos (by omega)] at e
                exact ungR_none e
              rw [h0] at hsi
              go_wp2
              go_ret2
              exact ret_ung HF.out
          · have h0b : ((c.toNat : Int) == 0) = false := by simp; omega
            have HF : Hid (ungR s.data.toList = .tuple #[.int .u64 (acc + c.toNat % 128 * 128 ^ i : Nat), .int .i64 (i + 1 : Nat)]) := by
              have e := HU.out
              rw [HD.out, ungAt_last (by omega) (by omega), if_neg (by omega)] at e
              have ha := acc_small acc i HA.out (by omega)
              have hp := pow_small c.toNat i (by omega)
              refine ungR_some (n := acc + c.toNat % 128 * 128 ^ i) (by rw [e, Nat.mul_comm, Nat.mod_eq_of_lt h128]) (by omega) rfl (by rw [HSL.out]; omega)
            have HO : Hid (bits .or .u64 (acc : Int) (IntKind.u64.wrap ((c.toNat : Int) % 128 * 2 ^ (i * 7))) = ((acc + c.toNat % 128 * 128 ^ i : Nat) : Int)) := or_shift acc c.toNat i HA.out (by have := pow_small c.toNat i (by omega); omega) (by omega)
            clear HD HU
            generalize hk : c.toNat = k at *
            clear hk
            go_wp2
            go_ret2
            refine ret_ung ?_
            rw [HF.out, ← HO.out]; rfl
        · have hor := or_shift acc c.toNat i HA.out (by have := pow_small c.toNat i (by omega); omega) (by omega)
          have HN := acc_next acc c.toNat i HA.out
          have e := HU.out
          rw [HD.out, ungAt_more (by omega) h128] at e
          have HE : Hid (ungL 10 s.data.toList = ungAt (i + 1) (acc + c.toNat % 128 * 128 ^ i) (s.data.toList.drop (i + 1))) := e
          have HO : Hid (bits .or .u64 (acc : Int) (IntKind.u64.wrap ((c.toNat : Int) % 128 * 2 ^ (i * 7))) = ((acc + c.toNat % 128 * 128 ^ i : Nat) : Int)) := hor
          have HN' : Hid (acc + c.toNat % 128 * 128 ^ i < 128 ^ (i + 1)) := HN
          clear e hor HN HD HU
          generalize hk : c.toNat = k at *
          clear hk
          go_wp2
          exact ⟨⟨i + 1, acc + k % 128 * 128 ^ i, by go_num, by rw [HO.out], by omega, by omega, HN'.out, HE.out⟩, by simp [intOf]; omega⟩
    · have HF : Hid (ungR s.data.toList = .tuple #[.int .u64 0, .int .i64 0]) := by
        have e := HU.out
        by_cases h : i < s.size
        · have : i = 10 := by omega
          subst this
          rw [ungAt_ten] at e
          exact ungR_none e
        · rw [List.drop_of_length_le (by rw [HSL.out]; omega), ungAt_nil] at e
          exact ungR_none e
      go_wp2
      go_ret2
      exact ret_ung HF.out
theorem ungroup_any (s : ByteArray) (hs : s.size ≤ 10000000) (w : World) :
    Calls Tryd.prog 58 #[.string s] w fun e w' => e = .returned (ungR s.data.toList) ∧ w = w' := by
  by_cases hm : s.size ≤ 10
  · exact ungroup_short s hm w
  · exact ungroup_long s (by omega) hs w
end Go.Proofs.YthngdaeiopgigaaDoor
