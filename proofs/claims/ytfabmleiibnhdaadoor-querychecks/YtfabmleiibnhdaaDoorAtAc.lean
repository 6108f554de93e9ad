/- Sets: bit, With, Without, Has, Within, List; rows of numbers. -/
import Derived.Test.YtfabmleiibnhdaaDoorAtAb
namespace Go.Proofs.YtfabmleiibnhdaaDoor.At
open Go.RowKit Go.Shelf Go.Maps
/-- The set of one number. -/
def bitI (n : Int) : Int := if 0 ≤ n ∧ n < 32 then 2 ^ n.toNat % 4294967296 else 0
set_option maxHeartbeats 800000 in
theorem bit_low (n : Int) (w : World) (h : n < 0) : Calls Tryd.prog 47 #[.int .i64 n] w fun e w' => e = .returned (.int .u32 0) ∧ w' = w := by
  go_enter Tryd.func47, Tryd.ntmps47
  go_wp2
  go_ret
  exact ⟨rfl, rfl⟩
set_option maxHeartbeats 800000 in
theorem bit_high (n : Int) (w : World) (h : 32 ≤ n) : Calls Tryd.prog 47 #[.int .i64 n] w fun e w' => e = .returned (.int .u32 0) ∧ w' = w := by
  have h0 : ¬ n < 0 := by omega
  go_enter Tryd.func47, Tryd.ntmps47
  go_wp2
  go_ret
  exact ⟨rfl, rfl⟩
set_option maxHeartbeats 800000 in
theorem bit_in (n : Nat) (w : World) (h : n < 32) : Calls Tryd.prog 47 #[.int .i64 (n : Int)] w fun e w' => e = .returned (.int .u32 (2 ^ n % 4294967296)) ∧ w' = w := by
  have h0 : ¬ (n : Int) < 0 := by omega
  have h1 : ¬ (32 : Int) ≤ n := by omega
  go_enter Tryd.func47, Tryd.ntmps47
  go_wp2
  go_ret
  exact ⟨rfl, rfl⟩
theorem bit_any (n : Int) (w : World) : Calls Tryd.prog 47 #[.int .i64 n] w fun e w' => e = .returned (.int .u32 (bitI n)) ∧ w' = w := by
  by_cases h0 : n < 0
  · rw [show bitI n = 0 from if_neg (by omega)]; exact bit_low n w h0
  · by_cases h1 : 32 ≤ n
    · rw [show bitI n = 0 from if_neg (by omega)]; exact bit_high n w h1
    · obtain ⟨k, rfl⟩ := Int.eq_ofNat_of_zero_le (show 0 ≤ n by omega)
      rw [show bitI (k : Int) = 2 ^ k % 4294967296 from (if_pos (by omega)).trans (by rw [Int.toNat_natCast])]
      exact bit_in k w (by omega)
theorem bitI_in (k : Nat) (hk : k < 32) : bitI (k : Int) = ((2 ^ k : Nat) : Int) := by
  have hp : 2 ^ k < 4294967296 := pow32 hk
  unfold bitI
  rw [if_pos (by omega), Int.toNat_natCast]
  have : (2 : Int) ^ k = ((2 ^ k : Nat) : Int) := (Int.natCast_pow 2 k).symm
  rw [this]
  exact Int.emod_eq_of_lt (Int.natCast_nonneg _) (by generalize 2 ^ k = p at hp ⊢; omega)
theorem bitI_out (n : Int) (h : ¬ (0 ≤ n ∧ n < 32)) : bitI n = 0 := if_neg h
set_option maxHeartbeats 800000 in
theorem with_any (m n : Int) (w : World) : Calls Tryd.prog 41 #[.int .u32 m, .int .i64 n] w fun e w' => e = .returned (.int .u32 (bits .or .u32 m (bitI n))) ∧ w' = w := by
  have BC := hid (bit_any n w)
  go_enter Tryd.func41, Tryd.ntmps41
  go_wp2_with fail
  refine BC.out.mono ?_
  rintro e w1 ⟨rfl, rfl⟩
  go_wp2_with fail
  go_ret
  exact ⟨rfl, rfl⟩
set_option maxHeartbeats 800000 in
theorem sethas_any (m n : Int) (w : World) : Calls Tryd.prog 42 #[.int .u32 m, .int .i64 n] w fun e w' => e = .returned (.bool (bits .and .u32 m (bitI n) != 0)) ∧ w' = w := by
  have BC := hid (bit_any n w)
  go_enter Tryd.func42, Tryd.ntmps42
  go_wp2_with fail
  refine BC.out.mono ?_
  rintro e w1 ⟨rfl, rfl⟩
  go_wp2_with fail
  go_ret
  exact ⟨rfl, rfl⟩
set_option maxHeartbeats 800000 in
theorem within_any (m a : Int) (w : World) : Calls Tryd.prog 19 #[.int .u32 m, .int .u32 a] w fun e w' => e = .returned (.bool (bits .andNot .u32 m a == 0)) ∧ w' = w := by
  go_enter Tryd.func19, Tryd.ntmps19
  go_wp2
  go_ret
  exact ⟨rfl, rfl⟩
theorem with_in (m c : Nat) (hm : m < 4294967296) (hc : c < 32) (w : World) : Calls Tryd.prog 41 #[.int .u32 (m : Int), .int .i64 (c : Int)] w fun e w' => e = .returned (.int .u32 ((wi m c : Nat) : Int)) ∧ w' = w := by
  have := with_any (m : Int) (c : Int) w
  rw [bitI_in c hc, bits_or32 m _ hm (pow32 hc)] at this
  exact this
theorem cast_beq0 (a : Nat) : (((a : Nat) : Int) == 0) = decide (a = 0) := by
  rw [Bool.eq_iff_iff]
  simp
theorem within_nat (m a : Nat) (hm : m < 4294967296) (ha : a < 4294967296) (w : World) : Calls Tryd.prog 19 #[.int .u32 (m : Int), .int .u32 (a : Int)] w fun e w' => e = .returned (.bool (decide (an m a = 0))) ∧ w' = w := by
  have := within_any (m : Int) (a : Int) w
  rw [bits_an32 m a hm ha, cast_beq0] at this
  exact this
/-- Whether a number is in a set. -/
theorem and_pow (m k : Nat) : (m &&& 2 ^ k ≠ 0) ↔ m.testBit k = true := by
  have hb : (m &&& 2 ^ k).testBit k = m.testBit k := by rw [Nat.testBit_and, Nat.testBit_two_pow_self, Bool.and_true]
  cases ht : m.testBit k with
  | true =>
    rw [ht] at hb
    exact ⟨fun _ => rfl, fun _ h0 => by rw [h0] at hb; simp at hb⟩
  | false =>
    have : m &&& 2 ^ k = 0 := Nat.eq_of_testBit_eq fun i => by
      rw [Nat.testBit_and, Nat.testBit_two_pow, Nat.zero_testBit]
      by_cases hik : k = i
      · subst hik; rw [ht]; rfl
      · rw [decide_eq_false hik, Bool.and_false]
    simp [this]
theorem sethas_in (m k : Nat) (hm : m < 4294967296) (hk : k < 32) (w : World) : Calls Tryd.prog 42 #[.int .u32 (m : Int), .int .i64 (k : Int)] w fun e w' => e = .returned (.bool (m.testBit k)) ∧ w' = w := by
  have := sethas_any (m : Int) (k : Int) w
  have e : (((m &&& 2 ^ k : Nat) : Int) != 0) = m.testBit k := by
    rw [bne, cast_beq0, Bool.eq_iff_iff, ← and_pow]
    simp
  rw [bitI_in k hk, bits_and32 m _ hm (pow32 hk), e] at this
  exact this
theorem sethas_all (n : Nat) (hn : n ≤ 16) (c : Int) (w : World) : Calls Tryd.prog 42 #[.int .u32 ((2 ^ n - 1 : Nat) : Int), .int .i64 c] w fun e w' => e = .returned (.bool (decide (0 ≤ c ∧ c < n))) ∧ w' = w := by
  have hp := pow_le hn
  have hp0 : 0 < 2 ^ n := Nat.two_pow_pos n
  by_cases h : 0 ≤ c ∧ c < 32
  · obtain ⟨k, rfl⟩ := Int.eq_ofNat_of_zero_le h.1
    have := sethas_in (2 ^ n - 1) k (by omega) (by omega) w
    rw [Nat.testBit_two_pow_sub_one] at this
    have e : decide (k < n) = decide ((0 : Int) ≤ k ∧ (k : Int) < n) := by
      rw [Bool.eq_iff_iff]; simp
    rw [e] at this
    exact this
  · have := sethas_any ((2 ^ n - 1 : Nat) : Int) c w
    have e : bits .and .u32 ((2 ^ n - 1 : Nat) : Int) (bitI c) = ((0 : Nat) : Int) := by
      rw [bitI_out c h, show (0 : Int) = ((0 : Nat) : Int) from rfl, bits_and32 _ 0 (by omega) (by decide), Nat.and_zero]
    rw [e] at this
    rw [decide_eq_false (by omega)]
    exact this
end Go.Proofs.YtfabmleiibnhdaaDoor.At
