/- Contract of the reference's Flags. -/
import Derived.Test.YthngdaeiopgigaaDoorMc
namespace Go.Proofs.YthngdaeiopgigaaDoor
open Go.ChangeShapes Go.WideShapes Go.ChangeAt Go.RowKit
attribute [local go_sem ↓] Go.wp_at_zero Go.wp_at_succ
theorem pk_done (fl : List Bool) (j k : Nat) (h : k = 8 ∨ fl.length ≤ 8 * j + k) : pk (fl.take (8 * j + k)) j = pk fl j := by
  have e : ∀ t, t < 8 → (fl.take (8 * j + k)).getD (8 * j + t) false = fl.getD (8 * j + t) false := by
    intro t ht
    rcases h with h | h
    · simp only [List.getD_eq_getElem?_getD, List.getElem?_take]
      rw [if_pos (by omega)]
    · rw [List.take_of_length_le h]
  have e0 := e 0 (by omega)
  rw [Nat.add_zero] at e0
  unfold pk
  rw [e0, e 1 (by omega), e 2 (by omega), e 3 (by omega), e 4 (by omega), e 5 (by omega), e 6 (by omega), e 7 (by omega)]
theorem pk_none (fl : List Bool) (j : Nat) : pk (fl.take (8 * j + 0)) j = 0 := by
  have e : ∀ t, (fl.take (8 * j + 0)).getD (8 * j + t) false = false := fun t => take_at fl _ _ (by omega)
  have e0 := e 0
  rw [Nat.add_zero] at e0
  unfold pk
  simp only [Nat.add_zero] at e e0 ⊢
  rw [e0, e 1, e 2, e 3, e 4, e 5, e 6, e 7]
  rfl
theorem pk_same (fl : List Bool) (i j : Nat) (h : fl.getD i false = false) : pk (fl.take (i + 1)) j = pk (fl.take i) j := by
  unfold pk; simp only [take_succ_false fl i h]
theorem pk_wrap (fl : List Bool) (j k : Nat) (hk : k < 8) (h : fl.getD (8 * j + k) false = true) : wrap64 ((pk (fl.take (8 * j + k)) j : Nat) + wrap64 (2 ^ k)) = (pk (fl.take (8 * j + (k + 1))) j : Nat) := by
  obtain ⟨h1, h2⟩ := pk_bit fl j k hk h
  rw [show 8 * j + (k + 1) = 8 * j + k + 1 by omega, h1]
  have h3 := pk_lt (fl.take (8 * j + k)) j
  have h4 : 2 ^ k ≤ 128 := by
    obtain rfl | rfl | rfl | rfl | rfl | rfl | rfl | rfl : k = 0 ∨ k = 1 ∨ k = 2 ∨ k = 3 ∨ k = 4 ∨ k = 5 ∨ k = 6 ∨ k = 7 := by omega
    all_goals decide
  have e : wrap64 ((2 : Int) ^ k) = ((2 ^ k : Nat) : Int) := by
    rw [show (2 : Int) ^ k = ((2 ^ k : Nat) : Int) from by rw [Int.natCast_pow]; rfl]
    exact IntWalk.wrap64_in _ (by omega)
  rw [e, ← Int.natCast_add]
  exact IntWalk.wrap64_in _ (by omega)
theorem one_byte (w : World) (n : Nat) (hn : n < 256) : (convert 64 9 (.slice (some ⟨w.heap.size, 0, none⟩) 1 1)).run Tryd.prog (w.alloc (.cells #[.int .u8 (n : Int)] 5)) = .ok (.string ⟨#[UInt8.ofNat n]⟩) (w.alloc (.cells #[.int .u8 (n : Int)] 5)) := by
  refine run_convert_bytes_back _ 64 9 5 ⟨w.heap.size, 0, none⟩ 1 [UInt8.ofNat n] Tryd.underlying64 Tryd.underlying5 Tryd.underlying9 (fun j hj => ?_)
  have hj0 : j = 0 := by simpa using hj
  subst hj0
  have e := blk_cell (blk_new w (.cells #[.int .u8 (n : Int)] 5)) 0
  have e2 : (UInt8.ofNat n).toNat = n := by simp; omega
  show (w.alloc (.cells #[.int .u8 (n : Int)] 5)).cell? ⟨w.heap.size, 0, none⟩ = some (.int .u8 ((UInt8.ofNat n).toNat : Int))
  rw [e2]
  exact e
set_option maxHeartbeats 1600000 in
set_option maxRecDepth 100000 in
theorem rflagsW_any (fl : List Bool) (v : Value) (w : World) (hl : fl.length ≤ 100000) (hB : Bools w v fl) :
    Calls Tryd.prog 42 #[v] w fun e w' => (∃ s : ByteArray, e = .returned (.string s) ∧ s.data.toList = packL fl) ∧ Below w.heap.size w w' := by
  obtain ⟨va, vc, rfl, hv⟩ := id hB
  go_enter Tryd.func42, Tryd.ntmps42
  go_wp2_with fail
  go_loopw [3, 4] (fun out i wr => ∃ (j : Nat) (s : ByteArray), i = .int .i64 (8 * j : Nat) ∧ out = .string s ∧ j ≤ (fl.length + 7) / 8 ∧ s.data.toList = (List.range j).map (fun t => UInt8.ofNat (pk fl t)) ∧ Below w.heap.size w wr) (fun _ i _ => fl.length + 8 - (intOf i).toNat)
  case atStart => exact ⟨0, _, rfl, rfl, Nat.zero_le _, rfl, Below.refl _ _⟩
  case round =>
    obtain ⟨j, s, rfl, rfl, hj, hs, hbel⟩ := hrel
    have HS := hid hs
    have hsz : s.size = j := by
      have := congrArg List.length hs
      simpa using this
    have hss : ¬ (9223372036854775807 < s.size + 1) := by omega
    have HN : Hid ((s ++ ⟨#[UInt8.ofNat (pk fl j)]⟩ : ByteArray).data.toList = (List.range (j + 1)).map (fun t => UInt8.ofNat (pk fl t))) := by
      show _ = _
      rw [List.range_succ, List.map_append, ← hs]
      simp [ByteArray.data_append]
    have HB := hid hbel
    by_cases hlt : 8 * j < fl.length
    · obtain ⟨b, o, rfl, hc⟩ := hv.resolve_left (by rintro rfl; simp at hlt)
      have hb : b < w.heap.size := World.block_lt_of_cell? w _ (hc 0 (by omega))
      clear hs
      go_wp2_with fail
      go_loop [5, 6] (fun bb kk => ∃ k : Nat, kk = .int .i64 k ∧ bb = .int .i64 (pk (fl.take (8 * j + k)) j : Nat) ∧ k ≤ 8) (fun _ kk => 8 - (intOf kk).toNat)
      case atStart => exact ⟨0, rfl, by rw [pk_none]; rfl, Nat.zero_le _⟩
      case round =>
        obtain ⟨k, rfl, rfl, hk⟩ := hrel
        by_cases hkl : k < 8 ∧ 8 * j + k < fl.length
        · obtain ⟨hk8, hjl⟩ := hkl
          have c := (hbel.cell (p := ⟨b, o + (8 * j + k), none⟩) hb).trans (hc (8 * j + k) hjl)
          cases hf : fl.getD (8 * j + k) false with
          | true =>
            have HW := hid (pk_wrap fl j k hk8 hf)
            rw [hf] at c
            go_wp2
            exact ⟨⟨k + 1, by go_num, HW.out, by omega⟩, by simp [intOf]; omega⟩
          | false =>
            have HW := hid (pk_same fl (8 * j + k) j hf)
            rw [hf] at c
            go_wp2
            exact ⟨⟨k + 1, by go_num, by rw [show 8 * j + (k + 1) = 8 * j + k + 1 by omega, HW.out], by omega⟩, by simp [intOf]; omega⟩
        · have HD := hid (pk_done fl j k (by omega))
          have hp := pk_lt fl j
          rw [HD.out]
          have hcv := one_byte wr (pk fl j) hp
          by_cases hk8 : k < 8
          · have hkl2 : ¬ 8 * j + k < fl.length := by omega
            go_wp2
            exact ⟨⟨j + 1, _, by go_num, rfl, by omega, HN.out, HB.out.alloc HB.out.size _⟩, by simp [intOf]; omega⟩
          · go_wp2
            exact ⟨⟨j + 1, _, by go_num, rfl, by omega, HN.out, HB.out.alloc HB.out.size _⟩, by simp [intOf]; omega⟩
    · have hje : j = (fl.length + 7) / 8 := by omega
      have HE : Hid (s.data.toList = packL fl) := by show _ = _; rw [hs, hje]; rfl
      clear hs HS HN
      go_wp2
      go_ret
      exact ⟨⟨_, rfl, HE.out⟩, HB.out⟩
end Go.Proofs.YthngdaeiopgigaaDoor
