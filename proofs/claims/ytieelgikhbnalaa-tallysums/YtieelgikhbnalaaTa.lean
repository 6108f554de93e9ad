/- Contracts of tally: a sum that goes on over bytes and numbers. -/
import Derived.Test.YtieelgikhbnalaaRows
import Derived.WalkKit
import Derived.ProofKit
import Derived.OpenShut
import Derived.Outline
import Derived.Deep.QuietTactic
import Derived.BigQuiet
import Derived.WalkLawsBesides
import Derived.Laws.Bits64
namespace Go.Proofs.Ytieelgikhbnalaa
open Go.ChangeShapes Go.WideShapes Go.ChangeAt Go.RowKit
theorem hid {p : Prop} (h : p) : Hid p := h
/-- The sum over one byte more. -/
def ovB (h x : Int) : Int := IntKind.u64.wrap (bits .xor .u64 h x * 1099511628211)
/-- The sum over bytes. -/
def ovT (h : Int) (l : List UInt8) : Int := l.foldl (fun h c => ovB h (c.toNat : Int)) h
/-- The number's bytes, the lowest first. -/
def numL (n : Nat) : List UInt8 := (List.range 8).map fun i => UInt8.ofNat (n / 256 ^ i)
theorem ovT_snoc (h : Int) (l : List UInt8) (c : UInt8) : ovT h (l ++ [c]) = ovB (ovT h l) (c.toNat : Int) := by simp [ovT]
theorem ovT_app (h : Int) (l m : List UInt8) : ovT h (l ++ m) = ovT (ovT h l) m := by simp [ovT]
theorem take_snoc (s : ByteArray) (k : Nat) (h : k < s.size) : s.data.toList.take (k + 1) = s.data.toList.take k ++ [s[k]] := by
  rw [List.take_succ_eq_append_getElem (by simpa using h)]; rfl
theorem num_take (n k : Nat) (h : k < 8) : (numL n).take (k + 1) = (numL n).take k ++ [UInt8.ofNat (n / 256 ^ k)] := by
  rw [List.take_succ_eq_append_getElem (by simpa [numL] using h)]
  simp [numL]
theorem num_at (n k : Nat) : ((UInt8.ofNat (n / 256 ^ k)).toNat : Int) = ((n / 256 ^ k : Nat) : Int) % 256 := by
  simp
set_option maxHeartbeats 400000 in
theorem byte_any (h x : Int) (h0 : 0 ≤ x) (h1 : x ≤ 255) (w : World) :
    Calls Try.prog 23 #[.int .u64 h, .int .u8 x] w fun e w' => e = .returned (.int .u64 (ovB h x)) ∧ w' = w := by
  go_enter Try.func23, Try.ntmps23
  go_wp2
  go_ret
  exact ⟨rfl, rfl⟩
theorem ret_u {k : IntKind} {a b : Int} (h : a = b) : Ending.returned (.int k a) = .returned (.int k b) := by rw [h]
set_option maxHeartbeats 400000 in
theorem text_any (h : Int) (s : ByteArray) (hs : s.size ≤ 140737488355328) (w : World) :
    Calls Try.prog 21 #[.int .u64 h, .string s] w fun e w' => e = .returned (.int .u64 (ovT h s.data.toList)) ∧ w' = w := by
  go_enter Try.func21, Try.ntmps21
  go_wp2
  go_loop [0, 8] (fun n i => ∃ k : Nat, k ≤ s.size ∧ i = .int .i64 k ∧ n = .int .u64 (ovT h (s.data.toList.take k))) (fun _ i => s.size - (intOf i).toNat)
  case atStart => exact ⟨0, Nat.zero_le _, rfl, rfl⟩
  case round =>
    obtain ⟨k, hk, rfl, rfl⟩ := hrel
    by_cases hlt : k < s.size
    · have HS := hid (show ovT h (s.data.toList.take (k + 1)) = ovB (ovT h (s.data.toList.take k)) (s[k].toNat : Int) by rw [take_snoc s k hlt, ovT_snoc])
      have hc : s[k].toNat < 256 := s[k].toNat_lt
      go_wp2_with (go_at_call 23; refine (byte_any _ _ (by omega) (by omega) _).mono ?_; rintro e w' ⟨rfl, rfl⟩)
      go_round
      case rel => exact ⟨k + 1, by omega, by go_num, by rw [HS.out]⟩
      case measure => simp [intOf]; omega
    · go_wp2
      go_ret
      exact ⟨ret_u (by rw [List.take_of_length_le (by simp; omega)]), rfl⟩
set_option maxHeartbeats 400000 in
theorem on_any (h : Int) (s : ByteArray) (hs : s.size ≤ 140737488355328) (w : World) :
    Calls Try.prog 22 #[.int .u64 h, .string s] w fun e w' => e = .returned (.int .u64 (ovT h s.data.toList)) ∧ w' = w := by
  go_enter Try.func22, Try.ntmps22
  go_wp2
  go_loop [0, 5] (fun n i => ∃ k : Nat, k ≤ s.size ∧ i = .int .i64 k ∧ n = .int .u64 (ovT h (s.data.toList.take k))) (fun _ i => s.size - (intOf i).toNat)
  case atStart => exact ⟨0, Nat.zero_le _, rfl, rfl⟩
  case round =>
    obtain ⟨k, hk, rfl, rfl⟩ := hrel
    by_cases hlt : k < s.size
    · have HS := hid (show ovT h (s.data.toList.take (k + 1)) = ovB (ovT h (s.data.toList.take k)) (s[k].toNat : Int) by rw [take_snoc s k hlt, ovT_snoc])
      have hc : s[k].toNat < 256 := s[k].toNat_lt
      go_wp2
      go_round
      case rel => exact ⟨k + 1, by omega, by go_num, by rw [HS.out]; rfl⟩
      case measure => simp [intOf]; omega
    · go_wp2
      go_ret
      exact ⟨ret_u (by rw [List.take_of_length_le (by simp; omega)]), rfl⟩
theorem num_div (n k : Nat) : ((n / 256 ^ k : Nat) : Int) / 256 = ((n / 256 ^ (k + 1) : Nat) : Int) := by
  rw [Nat.pow_succ, ← Nat.div_div_eq_div_mul]; omega
set_option maxHeartbeats 400000 in
theorem number_any (h : Int) (n : Nat) (w : World) :
    Calls Try.prog 20 #[.int .u64 h, .int .u64 n] w fun e w' => e = .returned (.int .u64 (ovT h (numL n))) ∧ w' = w := by
  go_enter Try.func20, Try.ntmps20
  go_wp2
  go_loop [0, 1, 5] (fun s m i => ∃ k : Nat, k ≤ 8 ∧ i = .int .i64 k ∧ m = .int .u64 (n / 256 ^ k : Nat) ∧ s = .int .u64 (ovT h ((numL n).take k))) (fun _ _ i => 8 - (intOf i).toNat)
  case atStart => exact ⟨0, Nat.zero_le _, rfl, by simp, rfl⟩
  case round =>
    obtain ⟨k, hk, rfl, rfl, rfl⟩ := hrel
    by_cases hlt : k < 8
    · have HS := hid (show ovT h ((numL n).take (k + 1)) = ovB (ovT h ((numL n).take k)) (((n / 256 ^ k : Nat) : Int) % 256) by rw [num_take n k hlt, ovT_snoc, num_at])
      have HD := hid (num_div n k)
      generalize n / 256 ^ k = m at *
      go_wp2_with (go_at_call 23; refine (byte_any _ _ (by omega) (by omega) _).mono ?_; rintro e w' ⟨rfl, rfl⟩)
      go_round
      case rel => exact ⟨k + 1, by omega, by go_num, by rw [← HD.out], by rw [HS.out]⟩
      case measure => simp [intOf]; omega
    · obtain rfl : k = 8 := by omega
      go_wp2
      go_ret
      exact ⟨ret_u (by rw [List.take_of_length_le (by simp [numL])]), rfl⟩
end Go.Proofs.Ytieelgikhbnalaa
