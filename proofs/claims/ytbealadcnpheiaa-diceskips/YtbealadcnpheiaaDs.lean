/- DiceSkips: the walk. -/
import Derived.Test.YtbealadcnpheiaaDw
namespace Go.Proofs.Ytbealadcnpheiaa
open Go.ChangeShapes Go.WideShapes Go.ChangeAt Go.RowKit
theorem rem200 (m : Int) : ∃ n : Nat, n < 200 ∧ wrap64 ((IntKind.u64.wrap m).tmod 200) = (n : Int) := by
  have h := u_bd m
  obtain ⟨n, hn⟩ := Int.eq_ofNat_of_zero_le h.1
  rw [hn]
  refine ⟨n % 200, Nat.mod_lt _ (by decide), ?_⟩
  rw [show (200 : Int) = ((200 : Nat) : Int) from rfl, ← Int.ofNat_tmod]
  have : n % 200 < 200 := Nat.mod_lt _ (by decide)
  unfold wrap64; omega
theorem neg_i64 (s m : Int) : skipZ s (wrap64 (-m)) = skipZ s (-m) := skip_wrap s (-m)
set_option maxHeartbeats 800000 in
theorem skips_walk (a0 a1 a2 : Int) (w0 : (Lit.int .i64 a0).wf = true) (_ : (Lit.int .i64 a1).wf = true) (_ : (Lit.int .i64 a2).wf = true) (w : World) :
    Calls Try.prog 5 #[.int .i64 a0, .int .i64 a1, .int .i64 a2] w fun e w' => e = .returned (.bool true) ∧ Grown w w' := by
  obtain ⟨h0, h1⟩ := of_wf_i64 w0
  obtain ⟨n, hn, en⟩ := rem200 a1
  have hni : (n : Int) < 200 := by omega
  have Z := hid (skip_zero a0 h0 h1)
  have e1 := hid (show skipZ (skipZ a0 n) (-(n : Int)) = a0 by rw [skip_skip, show (n : Int) + -n = 0 by omega]; exact Z.out)
  have e2 := hid (show skipZ (skipZ a0 a2) (wrap64 (-a2)) = a0 by rw [skip_wrap, skip_skip, show a2 + -a2 = 0 by omega]; exact Z.out)
  have e4 := hid (show skipZ (skipZ a0 a2) n = skipZ (skipZ a0 n) a2 by rw [skip_skip, skip_skip, Int.add_comm])
  clear w0 h0 h1
  go_enter Try.func5, Try.ntmps5
  go_wp2_with fail
  refine (awake_any _).mono ?_; rintro e w' ⟨rfl, N, rfl⟩
  go_wp2_with fail
  rw [en]
  generalize (IntKind.u64.wrap a1).tmod 200 = r1 at *
  go_loop [8, 9] (fun s i => ∃ k : Nat, k ≤ n ∧ i = .int .i64 k ∧ s = .int .i64 (skipZ a0 k)) (fun _ i => n - (intOf i).toNat)
  case atStart => exact ⟨0, Nat.zero_le _, rfl, by rw [show ((0 : Nat) : Int) = 0 from rfl, Z.out]⟩
  case round =>
    obtain ⟨k, hk, rfl, rfl⟩ := hrel
    by_cases hlt : k < n
    · have HS := hid (show skipZ a0 ((k + 1 : Nat) : Int) = stepZ (skipZ a0 k) by unfold stepZ; rw [skip_skip]; rfl)
      go_wp2_with fail
      refine (next_any _ _).mono ?_; rintro e w' ⟨rfl, rfl⟩
      go_wp2_with fail
      go_round
      case rel => exact ⟨k + 1, by omega, by go_num, by rw [HS.out]⟩
      case measure => simp [intOf]; omega
    · obtain rfl : k = n := by omega
      go_wp2_with fail
      refine (skip_any _ _ _).mono ?_; rintro e w' ⟨rfl, rfl⟩
      go_wp2_with fail
      refine (skip_any _ _ _).mono ?_; rintro e w' ⟨rfl, rfl⟩
      go_wp2_with fail
      refine (skip_any _ _ _).mono ?_; rw [e1.out]; rintro e w' ⟨rfl, rfl⟩
      go_wp2_with fail
      refine (skip_any _ _ _).mono ?_; rw [e2.out]; rintro e w' ⟨rfl, rfl⟩
      go_wp2_with fail
      refine (skip_any _ _ _).mono ?_; rw [Z.out]; rintro e w' ⟨rfl, rfl⟩
      go_wp2_with fail
      refine (skip_any _ _ _).mono ?_; rw [e4.out]; rintro e w' ⟨rfl, rfl⟩
      go_wp2_with fail
      refine (skip_any _ _ _).mono ?_; rintro e w' ⟨rfl, rfl⟩
      go_wp2_with fail
      go_ret
      exact ⟨rfl, Grown.drewN (Grown.refl _) _⟩
end Go.Proofs.Ytbealadcnpheiaa
