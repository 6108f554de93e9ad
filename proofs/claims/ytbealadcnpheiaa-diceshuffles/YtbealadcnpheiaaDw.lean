/- Contracts of dice: one draw, back, skip and seed; and of the reference. -/
import Derived.Test.YtbealadcnpheiaaDq
import Derived.WalkKit
import Derived.ProofKit
import Derived.OpenShut
import Derived.Outline
import Derived.Deep.QuietTactic
import Derived.BigQuiet
import Derived.WalkLawsBesides
namespace Go.Proofs.Ytbealadcnpheiaa
open Go.ChangeShapes Go.WideShapes Go.ChangeAt Go.RowKit
theorem hid {p : Prop} (h : p) : Hid p := h
set_option maxHeartbeats 400000 in
theorem skip_any (z m : Int) (w : World) :
    Calls Try.prog 17 #[.int .i64 z, .int .i64 m] w fun e w' => e = .returned (.int .i64 (skipZ z m)) ∧ w' = w := by
  go_enter Try.func17, Try.ntmps17
  go_wp2
  go_ret
  exact ⟨rfl, rfl⟩
set_option maxHeartbeats 400000 in
theorem fold30 (z : Int) (w : World) :
    Calls Try.prog 23 #[.int .u64 z, .int .u64 30] w fun e w' => e = .returned (.int .u64 (fo z 1073741824)) ∧ w' = w := by
  go_enter Try.func23, Try.ntmps23
  go_wp2
  go_ret
  exact ⟨rfl, rfl⟩
set_option maxHeartbeats 400000 in
theorem fold27 (z : Int) (w : World) :
    Calls Try.prog 23 #[.int .u64 z, .int .u64 27] w fun e w' => e = .returned (.int .u64 (fo z 134217728)) ∧ w' = w := by
  go_enter Try.func23, Try.ntmps23
  go_wp2
  go_ret
  exact ⟨rfl, rfl⟩
set_option maxHeartbeats 400000 in
theorem fold31 (z : Int) (w : World) :
    Calls Try.prog 23 #[.int .u64 z, .int .u64 31] w fun e w' => e = .returned (.int .u64 (fo z 2147483648)) ∧ w' = w := by
  go_enter Try.func23, Try.ntmps23
  go_wp2
  go_ret
  exact ⟨rfl, rfl⟩
set_option maxHeartbeats 400000 in
theorem fold60 (z : Int) (w : World) :
    Calls Try.prog 23 #[.int .u64 z, .int .u64 60] w fun e w' => e = .returned (.int .u64 (fo z 1152921504606846976)) ∧ w' = w := by
  go_enter Try.func23, Try.ntmps23
  go_wp2
  go_ret
  exact ⟨rfl, rfl⟩
set_option maxHeartbeats 400000 in
theorem fold54 (z : Int) (w : World) :
    Calls Try.prog 23 #[.int .u64 z, .int .u64 54] w fun e w' => e = .returned (.int .u64 (fo z 18014398509481984)) ∧ w' = w := by
  go_enter Try.func23, Try.ntmps23
  go_wp2
  go_ret
  exact ⟨rfl, rfl⟩
set_option maxHeartbeats 400000 in
theorem fold62 (z : Int) (w : World) :
    Calls Try.prog 23 #[.int .u64 z, .int .u64 62] w fun e w' => e = .returned (.int .u64 (fo z 4611686018427387904)) ∧ w' = w := by
  go_enter Try.func23, Try.ntmps23
  go_wp2
  go_ret
  exact ⟨rfl, rfl⟩
set_option maxHeartbeats 400000 in
theorem mix_any (z : Int) (w : World) :
    Calls Try.prog 18 #[.int .u64 z] w fun e w' => e = .returned (.int .u64 (mixZ z)) ∧ w' = w := by
  go_enter Try.func18, Try.ntmps18
  go_wp2_with fail
  refine (fold30 _ _).mono ?_; rintro e w' ⟨rfl, rfl⟩
  go_wp2_with fail
  refine (fold27 _ _).mono ?_; rintro e w' ⟨rfl, rfl⟩
  go_wp2_with fail
  refine (fold31 _ _).mono ?_; rintro e w' ⟨rfl, rfl⟩
  go_wp2_with fail
  go_ret
  exact ⟨rfl, rfl⟩
set_option maxHeartbeats 400000 in
theorem unfold31 (z : Int) (w : World) :
    Calls Try.prog 24 #[.int .u64 z, .int .u64 31] w fun e w' => e = .returned (.int .u64 (g31 z)) ∧ w' = w := by
  go_enter Try.func24, Try.ntmps24
  go_wp2_with fail
  go_loop [0, 1] (fun n i => (n = .int .u64 z ∧ i = .int .u64 31) ∨ (n = .int .u64 (fo z 2147483648) ∧ i = .int .u64 62) ∨ (n = .int .u64 (g31 z) ∧ i = .int .u64 124)) (fun _ i => 200 - (intOf i).toNat)
  case atStart => exact .inl ⟨rfl, rfl⟩
  case round =>
    rcases hrel with ⟨rfl, rfl⟩ | ⟨rfl, rfl⟩ | ⟨rfl, rfl⟩
    · go_wp2_with fail
      refine (fold31 _ _).mono ?_; rintro e w' ⟨rfl, rfl⟩
      go_wp2_with fail
      go_round
      case rel => exact .inr (.inl ⟨rfl, rfl⟩)
      case measure => simp [intOf]
    · go_wp2_with fail
      refine (fold62 _ _).mono ?_; rintro e w' ⟨rfl, rfl⟩
      go_wp2_with fail
      go_round
      case rel => exact .inr (.inr ⟨rfl, rfl⟩)
      case measure => simp [intOf]
    · go_wp2_with fail
      go_ret
      exact ⟨rfl, rfl⟩
set_option maxHeartbeats 400000 in
theorem unfold27 (z : Int) (w : World) :
    Calls Try.prog 24 #[.int .u64 z, .int .u64 27] w fun e w' => e = .returned (.int .u64 (g27 z)) ∧ w' = w := by
  go_enter Try.func24, Try.ntmps24
  go_wp2_with fail
  go_loop [0, 1] (fun n i => (n = .int .u64 z ∧ i = .int .u64 27) ∨ (n = .int .u64 (fo z 134217728) ∧ i = .int .u64 54) ∨ (n = .int .u64 (g27 z) ∧ i = .int .u64 108)) (fun _ i => 200 - (intOf i).toNat)
  case atStart => exact .inl ⟨rfl, rfl⟩
  case round =>
    rcases hrel with ⟨rfl, rfl⟩ | ⟨rfl, rfl⟩ | ⟨rfl, rfl⟩
    · go_wp2_with fail
      refine (fold27 _ _).mono ?_; rintro e w' ⟨rfl, rfl⟩
      go_wp2_with fail
      go_round
      case rel => exact .inr (.inl ⟨rfl, rfl⟩)
      case measure => simp [intOf]
    · go_wp2_with fail
      refine (fold54 _ _).mono ?_; rintro e w' ⟨rfl, rfl⟩
      go_wp2_with fail
      go_round
      case rel => exact .inr (.inr ⟨rfl, rfl⟩)
      case measure => simp [intOf]
    · go_wp2_with fail
      go_ret
      exact ⟨rfl, rfl⟩
set_option maxHeartbeats 400000 in
theorem unfold30 (z : Int) (w : World) :
    Calls Try.prog 24 #[.int .u64 z, .int .u64 30] w fun e w' => e = .returned (.int .u64 (g30 z)) ∧ w' = w := by
  go_enter Try.func24, Try.ntmps24
  go_wp2_with fail
  go_loop [0, 1] (fun n i => (n = .int .u64 z ∧ i = .int .u64 30) ∨ (n = .int .u64 (fo z 1073741824) ∧ i = .int .u64 60) ∨ (n = .int .u64 (g30 z) ∧ i = .int .u64 120)) (fun _ i => 200 - (intOf i).toNat)
  case atStart => exact .inl ⟨rfl, rfl⟩
  case round =>
    rcases hrel with ⟨rfl, rfl⟩ | ⟨rfl, rfl⟩ | ⟨rfl, rfl⟩
    · go_wp2_with fail
      refine (fold30 _ _).mono ?_; rintro e w' ⟨rfl, rfl⟩
      go_wp2_with fail
      go_round
      case rel => exact .inr (.inl ⟨rfl, rfl⟩)
      case measure => simp [intOf]
    · go_wp2_with fail
      refine (fold60 _ _).mono ?_; rintro e w' ⟨rfl, rfl⟩
      go_wp2_with fail
      go_round
      case rel => exact .inr (.inr ⟨rfl, rfl⟩)
      case measure => simp [intOf]
    · go_wp2_with fail
      go_ret
      exact ⟨rfl, rfl⟩
set_option maxHeartbeats 400000 in
theorem unmix_any (z : Int) (w : World) :
    Calls Try.prog 22 #[.int .u64 z] w fun e w' => e = .returned (.int .u64 (unZ z)) ∧ w' = w := by
  go_enter Try.func22, Try.ntmps22
  go_wp2_with fail
  refine (unfold31 _ _).mono ?_; rintro e w' ⟨rfl, rfl⟩
  go_wp2_with fail
  refine (unfold27 _ _).mono ?_; rintro e w' ⟨rfl, rfl⟩
  go_wp2_with fail
  refine (unfold30 _ _).mono ?_; rintro e w' ⟨rfl, rfl⟩
  go_wp2_with fail
  go_ret
  exact ⟨rfl, rfl⟩
set_option maxHeartbeats 400000 in
theorem back_any (z : Int) (w : World) :
    Calls Try.prog 16 #[.int .i64 z] w fun e w' => e = .returned (.int .i64 (backZ z)) ∧ w' = w := by
  go_enter Try.func16, Try.ntmps16
  go_wp2_with fail
  refine (skip_any _ _ _).mono ?_; rintro e w' ⟨rfl, rfl⟩
  go_wp2_with fail
  go_ret
  exact ⟨rfl, rfl⟩
set_option maxHeartbeats 400000 in
theorem next_any (z : Int) (w : World) :
    Calls Try.prog 8 #[.int .i64 z] w fun e w' => e = .returned (.tuple #[.int .i64 (stepZ z), .int .u64 (drawnZ z)]) ∧ w' = w := by
  go_enter Try.func8, Try.ntmps8
  go_wp2_with fail
  refine (skip_any _ _ _).mono ?_; rintro e w' ⟨rfl, rfl⟩
  go_wp2_with fail
  refine (mix_any _ _).mono ?_; rintro e w' ⟨rfl, rfl⟩
  go_wp2_with fail
  go_ret2
  exact ⟨rfl, rfl⟩
set_option maxHeartbeats 400000 in
theorem seed_any (z : Int) (w : World) :
    Calls Try.prog 15 #[.int .u64 z] w fun e w' => e = .returned (.int .i64 (seedZ z)) ∧ w' = w := by
  go_enter Try.func15, Try.ntmps15
  go_wp2_with fail
  refine (unmix_any _ _).mono ?_; rintro e w' ⟨rfl, rfl⟩
  go_wp2_with fail
  refine (back_any _ _).mono ?_; rintro e w' ⟨rfl, rfl⟩
  go_wp2_with fail
  go_ret
  exact ⟨rfl, rfl⟩
def drawZ (s b : Int) : Int := wrap64 ((drawnZ s).tmod b)
set_option maxHeartbeats 400000 in
theorem draw_pos (z b : Int) (hb : 0 < b) (hb1 : b ≤ 9223372036854775807) (w : World) :
    Calls Try.prog 10 #[.int .i64 z, .int .i64 b] w fun e w' => e = .returned (.tuple #[.int .i64 (stepZ z), .int .i64 (drawZ z b)]) ∧ ∃ n, w' = w.drewN n := by
  go_enter Try.func10, Try.ntmps10
  go_wp2_with fail
  refine (next_any _ _).mono ?_; rintro e w' ⟨rfl, rfl⟩
  go_wp2_with fail
  go_quiet (fail)
  go_wp2
  go_ret2
  exact ⟨rfl, _, rfl⟩
set_option maxHeartbeats 400000 in
theorem draw_neg (z b : Int) (hb : b ≤ 0) (w : World) :
    Calls Try.prog 10 #[.int .i64 z, .int .i64 b] w fun e w' => e = .returned (.tuple #[.int .i64 (stepZ z), .int .i64 0]) ∧ w' = w := by
  go_enter Try.func10, Try.ntmps10
  go_wp2_with fail
  refine (next_any _ _).mono ?_; rintro e w' ⟨rfl, rfl⟩
  go_wp2_with fail
  go_ret2
  exact ⟨rfl, rfl⟩
theorem k1 : stepZ 0 = -7046029254386353131 := by kernel_rfl
theorem k2 : drawnZ 0 = 16294208416658607535 := by kernel_rfl
theorem k3 : drawZ 0 6 = 1 := by kernel_rfl
theorem k4 : backZ (-7046029254386353131) = 0 := by kernel_rfl
set_option maxHeartbeats 400000 in
theorem awake_any (w : World) :
    Calls Try.prog 7 #[] w fun e w' => e = .returned (.bool true) ∧ ∃ n, w' = w.drewN n := by
  go_enter Try.func7, Try.ntmps7
  go_wp2_with fail
  refine (next_any _ _).mono ?_; rw [k1, k2]; rintro e w' ⟨rfl, rfl⟩
  go_wp2_with fail
  refine (draw_pos _ _ (by decide) (by decide) _).mono ?_; rw [k1, k3]; rintro e w' ⟨rfl, n, rfl⟩
  go_wp2_with fail
  refine (back_any _ _).mono ?_; rw [k4]; rintro e w' ⟨rfl, rfl⟩
  go_wp2_with fail
  go_ret
  exact ⟨rfl, n, rfl⟩
theorem of_wf_i64 {a : Int} (h : (Lit.int .i64 a).wf = true) : -9223372036854775808 ≤ a ∧ a ≤ 9223372036854775807 := by
  simp [Lit.wf, IntKind.min, IntKind.max, IntKind.bits, IntKind.signed] at h; omega
theorem of_wf_u64 {a : Int} (h : (Lit.int .u64 a).wf = true) : 0 ≤ a ∧ a < 18446744073709551616 := by
  simp [Lit.wf, IntKind.min, IntKind.max, IntKind.bits, IntKind.signed] at h; omega
theorem Grown.drewN {w w' : World} (h : Grown w w') (n : Nat) : Grown w (w'.drewN n) := by
  induction n generalizing w' with
  | zero => exact h
  | succ n ih => exact ih (Grown.drew h)
set_option maxHeartbeats 400000 in
theorem walk (a0 : Int) (a1 : Int) (w0 : (Lit.int .i64 a0).wf = true) (w1 : (Lit.int .u64 a1).wf = true) (w : World) :
    Calls Try.prog 4 #[.int .i64 a0, .int .u64 a1] w fun e w' => e = .returned (.bool true) ∧ Grown w w' := by
  obtain ⟨h0, h1⟩ := of_wf_i64 w0
  obtain ⟨g0, g1⟩ := of_wf_u64 w1
  have e1 := back_step a0 h0 h1
  have e2 := step_back a0 h0 h1
  have e3 := seed_next a0 h0 h1
  have e4 := next_seed a1 g0 g1
  clear h0 h1 g0 g1 w0 w1
  go_enter Try.func4, Try.ntmps4
  go_wp2_with fail
  refine (awake_any _).mono ?_; rintro e w' ⟨rfl, n, rfl⟩
  go_wp2_with fail
  refine (next_any _ _).mono ?_; rintro e w' ⟨rfl, rfl⟩
  go_wp2_with fail
  refine (seed_any _ _).mono ?_; rintro e w' ⟨rfl, rfl⟩
  go_wp2_with fail
  refine (next_any _ _).mono ?_; rw [e4]; rintro e w' ⟨rfl, rfl⟩
  go_wp2_with fail
  refine (back_any _ _).mono ?_; rintro e w' ⟨rfl, rfl⟩
  go_wp2_with fail
  refine (next_any _ _).mono ?_; rw [e2]; rintro e w' ⟨rfl, rfl⟩
  go_wp2_with fail
  refine (back_any _ _).mono ?_; rw [e1]; rintro e w' ⟨rfl, rfl⟩
  go_wp2_with fail
  refine (seed_any _ _).mono ?_; rw [e3]; rintro e w' ⟨rfl, rfl⟩
  go_wp2_with fail
  go_ret
  exact ⟨rfl, Grown.drewN (Grown.refl _) _⟩
end Go.Proofs.Ytbealadcnpheiaa
