/- Sets against the reference. -/
import Derived.Test.YtmekfiafdjdopaaDoorXa
namespace Go.Proofs.YtmekfiafdjdopaaDoor
open Go.RowKit Go.Shelf
set_option maxHeartbeats 800000 in
theorem count_any (m : Nat) (h : m < 4294967296) (w : World) : Calls Tryd.prog 26 #[.int .u32 (m : Int)] w fun e w' => e = .returned (.int .i64 (ones 32 m : Int)) ∧ Below w.heap.size w w' := by
  have OC := hid (count32 m h w)
  clear h
  go_enter Tryd.func26, Tryd.ntmps26
  go_wp2_with fail
  refine OC.out.mono ?_
  rintro e w1 ⟨rfl, b1⟩
  have B1 := hid b1
  clear b1 OC
  go_wp2_with fail
  go_ret
  exact ⟨rfl, B1.out⟩
/-- Whether a number is in a set. -/
def inB (m : Nat) (n : Int) : Bool := decide (0 ≤ n ∧ n < 32) && decide (m / 2 ^ n.toNat % 2 = 1)
theorem inB_out (m : Nat) (n : Int) (h : ¬ (0 ≤ n ∧ n < 32)) : inB m n = false := by simp [inB, h]
theorem inB_in (m k : Nat) (h : k < 32) : inB m (k : Int) = decide (m / 2 ^ k % 2 = 1) := by
  unfold inB
  rw [decide_eq_true (show (0 : Int) ≤ k ∧ (k : Int) < 32 by omega), Int.toNat_natCast]
  rfl
theorem tmod_at (m k : Nat) : (((m : Int) / 2 ^ k).tmod 2 == 1) = decide (m / 2 ^ k % 2 = 1) := by
  have e1 : (m : Int) / 2 ^ k = ((m / 2 ^ k : Nat) : Int) := by simp
  rw [e1, show (2 : Int) = ((2 : Nat) : Int) from rfl, ← Int.ofNat_tmod, Bool.eq_iff_iff]
  simp
  omega
set_option maxHeartbeats 800000 in
theorem refhas_any (m : Nat) (_h : m < 4294967296) (n : Int) (w : World) : Calls Tryd.prog 25 #[.int .u32 (m : Int), .int .i64 n] w fun e w' => e = .returned (.bool (inB m n)) ∧ w' = w := by
  by_cases h0 : 0 ≤ n
  · by_cases h1 : n < 32
    · obtain ⟨k, rfl⟩ := Int.eq_ofNat_of_zero_le h0
      rw [inB_in m k (by omega), ← tmod_at m k]
      go_enter Tryd.func25, Tryd.ntmps25
      go_wp2_with fail
      go_ret
      exact ⟨rfl, rfl⟩
    · rw [inB_out m n (by omega)]
      go_enter Tryd.func25, Tryd.ntmps25
      go_wp2_with fail
      go_ret
      exact ⟨rfl, rfl⟩
  · rw [inB_out m n (by omega)]
    go_enter Tryd.func25, Tryd.ntmps25
    go_wp2_with fail
    go_ret
    exact ⟨rfl, rfl⟩
theorem bits_or0 (b : Nat) (h : b < 4294967296) : bits .or .u32 0 (b : Int) = (b : Int) := by
  have := (bits_nat .u32 32 (by decide) (fun n h0 h1 => by rw [IntKind.wrap_u32]; omega) 0 b (by decide) (by omega)).2
  simpa using this
theorem bits_and2 (m k : Nat) (h : m < 4294967296) (hk : k < 32) : (bits .and .u32 (m : Int) ((2 ^ k : Nat) : Int) != 0) = decide (m / 2 ^ k % 2 = 1) := by
  have hp : 2 ^ k < 4294967296 := Nat.lt_of_lt_of_le (Nat.pow_lt_pow_right (by decide) hk) (by decide)
  have e := (bits_nat .u32 32 (by decide) (fun n h0 h1 => by rw [IntKind.wrap_u32]; omega) m (2 ^ k) (by omega) (by omega)).1
  rw [e]
  have hb : (m &&& 2 ^ k).testBit k = m.testBit k := by rw [Nat.testBit_and, Nat.testBit_two_pow_self, Bool.and_true]
  rw [← Nat.testBit_eq_decide_div_mod_eq]
  cases ht : m.testBit k with
  | true =>
    rw [ht] at hb
    have : m &&& 2 ^ k ≠ 0 := fun h0 => by rw [h0] at hb; simp at hb
    rw [bne_iff_ne]
    exact_mod_cast this
  | false =>
    have : m &&& 2 ^ k = 0 := Nat.eq_of_testBit_eq fun i => by
      rw [Nat.testBit_and, Nat.testBit_two_pow, Nat.zero_testBit]
      by_cases hik : k = i
      · subst hik; rw [ht]; rfl
      · rw [decide_eq_false hik, Bool.and_false]
    rw [this]; rfl
theorem bitI_in (k : Nat) (hk : k < 32) : bitI (k : Int) = ((2 ^ k : Nat) : Int) := by
  have hp : 2 ^ k < 4294967296 := Nat.lt_of_lt_of_le (Nat.pow_lt_pow_right (by decide) hk) (by decide)
  unfold bitI
  rw [if_pos (by omega), Int.toNat_natCast]
  have : (2 : Int) ^ k = ((2 ^ k : Nat) : Int) := (Int.natCast_pow 2 k).symm
  rw [this]
  exact Int.emod_eq_of_lt (Int.natCast_nonneg _) (by generalize 2 ^ k = p at hp ⊢; omega)
theorem bitI_out (n : Int) (h : ¬ (0 ≤ n ∧ n < 32)) : bitI n = 0 := if_neg h
theorem has_in (m : Nat) (h : m < 4294967296) (n : Int) : (bits .and .u32 (m : Int) (bitI n) != 0) = inB m n := by
  by_cases hn : 0 ≤ n ∧ n < 32
  · obtain ⟨k, rfl⟩ := Int.eq_ofNat_of_zero_le hn.1
    rw [bitI_in k (by omega), inB_in m k (by omega)]
    exact bits_and2 m k h (by omega)
  · rw [bitI_out n hn, inB_out m n hn]
    have e := (bits_nat .u32 32 (by decide) (fun n h0 h1 => by rw [IntKind.wrap_u32]; omega) m 0 (by omega) (by decide)).1
    rw [Nat.and_zero] at e
    rw [show (0 : Int) = ((0 : Nat) : Int) from rfl, e]
    rfl
set_option maxHeartbeats 800000 in
set_option maxRecDepth 100000 in
theorem refcount_any (m : Nat) (h : m < 4294967296) (w : World) : Calls Tryd.prog 27 #[.int .u32 (m : Int)] w fun e w' => e = .returned (.int .i64 (ones 32 m : Int)) ∧ w' = w := by
  have RH := hid (fun n w => refhas_any m h n w)
  clear h
  go_enter Tryd.func27, Tryd.ntmps27
  go_wp2_with fail
  go_loop [3, 4] (fun c i => ∃ k : Nat, k ≤ 32 ∧ i = .int .i64 (k : Int) ∧ ∃ z : Nat, Hid (z = ones k m) ∧ c = .int .i64 (z : Int)) (fun _ i => 32 - (intOf i).toNat)
  case atStart => exact ⟨0, Nat.zero_le _, rfl, 0, rfl, rfl⟩
  case round =>
    obtain ⟨k, hk, rfl, z, HZ, rfl⟩ := hrel
    have hz32 : z ≤ 32 := by rw [HZ.out]; exact Nat.le_trans (ones_le k m) hk
    have hzi : (z : Int) ≤ 32 := by omega
    by_cases hlt : k < 32
    · have hki : (k : Int) < 32 := by omega
      have OS := hid (ones_step k m)
      have IB := hid (inB_in m k hlt)
      go_wp2_with fail
      refine (RH.out _ _).mono ?_
      rintro e w1 ⟨rfl, rfl⟩
      rw [IB.out]
      by_cases hc : m / 2 ^ k % 2 = 1
      · have R : Hid (z + 1 = ones (k + 1) m) := by show _ = _; rw [OS.out, ← HZ.out, hc]
        have hd : decide (m / 2 ^ k % 2 = 1) = true := decide_eq_true hc
        rw [hd]
        clear hd hc OS IB
        go_wp2_with fail
        go_round
        case rel => exact ⟨k + 1, by omega, by go_num, z + 1, R.out, by go_num⟩
        case measure => simp [intOf]; omega
      · have R : Hid (z = ones (k + 1) m) := by show _ = _; rw [OS.out, ← HZ.out]; omega
        have hd : decide (m / 2 ^ k % 2 = 1) = false := decide_eq_false hc
        rw [hd]
        clear hd hc OS IB
        go_wp2_with fail
        go_round
        case rel => exact ⟨k + 1, by omega, by go_num, z, R.out, rfl⟩
        case measure => simp [intOf]; omega
    · have hki : ¬ ((k : Int) < 32) := by omega
      have R : Hid (z = ones 32 m) := by show _ = _; rw [HZ.out, show k = 32 by omega]
      go_wp2_with fail
      go_ret
      exact ⟨by rw [R.out]; rfl, rfl⟩
end Go.Proofs.YtmekfiafdjdopaaDoor
