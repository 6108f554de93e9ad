/- Dice, plainly: steps there and back. -/
import Derived.Test.YtbealadcnpheiaaDp
namespace Go.Proofs.Ytbealadcnpheiaa
open Go.RowKit
def stepZ (s : Int) : Int := skipZ s 1
def backZ (s : Int) : Int := skipZ s (-1)
def drawnZ (s : Int) : Int := mixZ (IntKind.u64.wrap (stepZ s))
def seedZ (z : Int) : Int := backZ (wrap64 (unZ z))
theorem u_s (z : Int) : IntKind.u64.wrap (wrap64 z) = IntKind.u64.wrap z := by
  unfold wrap64; simp only [IntKind.wrap_u64]; omega
theorem u_u (z : Int) : IntKind.u64.wrap (IntKind.u64.wrap z) = IntKind.u64.wrap z := by
  simp only [IntKind.wrap_u64]; omega
theorem s_u (z : Int) : wrap64 (IntKind.u64.wrap z) = wrap64 z := by
  unfold wrap64; simp only [IntKind.wrap_u64]; omega
theorem s_s (z : Int) : wrap64 (wrap64 z) = wrap64 z := by
  unfold wrap64; omega
theorem s_id (s : Int) (h0 : -9223372036854775808 ≤ s) (h1 : s ≤ 9223372036854775807) : wrap64 s = s := by
  unfold wrap64; omega
theorem u_add (a b : Int) : IntKind.u64.wrap (IntKind.u64.wrap a + IntKind.u64.wrap b) = IntKind.u64.wrap (a + b) := by
  simp only [IntKind.wrap_u64]; omega
theorem u_mul (m c : Int) : IntKind.u64.wrap (IntKind.u64.wrap m * c) = IntKind.u64.wrap (m * c) := by
  simp only [IntKind.wrap_u64]; rw [Int.mul_emod, Int.emod_emod_of_dvd _ (Int.dvd_refl _), ← Int.mul_emod]
theorem skipZ_eq (s m : Int) : skipZ s m = wrap64 (s + m * 11400714819323198485) := by
  unfold skipZ skipU; rw [u_mul, u_add, s_u]
theorem skip_skip (s m k : Int) : skipZ (skipZ s m) k = skipZ s (m + k) := by
  rw [skipZ_eq, skipZ_eq, skipZ_eq, Int.add_mul]
  generalize m * 11400714819323198485 = a
  generalize k * 11400714819323198485 = b
  unfold wrap64; omega
theorem wrap_mul (m c : Int) : wrap64 (wrap64 m * c) = wrap64 (m * c) := by
  rw [← s_u (wrap64 m * c), ← s_u (m * c)]
  congr 1
  rw [← u_mul (wrap64 m), u_s, u_mul]
theorem skip_wrap (s m : Int) : skipZ s (wrap64 m) = skipZ s m := by
  rw [skipZ_eq, skipZ_eq]
  have h := wrap_mul m 11400714819323198485
  generalize wrap64 m * 11400714819323198485 = a at *
  generalize m * 11400714819323198485 = b at *
  unfold wrap64 at *; omega
theorem skip_zero (s : Int) (h0 : -9223372036854775808 ≤ s) (h1 : s ≤ 9223372036854775807) : skipZ s 0 = s := by
  rw [skipZ_eq, Int.zero_mul, Int.add_zero, s_id s h0 h1]
theorem skip_bd (s m : Int) : -9223372036854775808 ≤ skipZ s m ∧ skipZ s m ≤ 9223372036854775807 := by
  unfold skipZ; unfold wrap64; omega
theorem back_step (s : Int) (h0 : -9223372036854775808 ≤ s) (h1 : s ≤ 9223372036854775807) : backZ (stepZ s) = s := by
  unfold backZ stepZ; rw [skip_skip]; exact skip_zero s h0 h1
theorem step_back (s : Int) (h0 : -9223372036854775808 ≤ s) (h1 : s ≤ 9223372036854775807) : stepZ (backZ s) = s := by
  unfold backZ stepZ; rw [skip_skip]; exact skip_zero s h0 h1
theorem u_bd (s : Int) : 0 ≤ IntKind.u64.wrap s ∧ IntKind.u64.wrap s < 18446744073709551616 := by
  simp only [IntKind.wrap_u64]; omega
theorem u_id (s : Int) (h0 : 0 ≤ s) (h1 : s < 18446744073709551616) : IntKind.u64.wrap s = s := by
  simp only [IntKind.wrap_u64]; omega
theorem wrap_bd (s : Int) : -9223372036854775808 ≤ wrap64 s ∧ wrap64 s ≤ 9223372036854775807 := by
  unfold wrap64; omega
theorem seed_next (s : Int) (h0 : -9223372036854775808 ≤ s) (h1 : s ≤ 9223372036854775807) : seedZ (drawnZ s) = s := by
  unfold seedZ drawnZ
  rw [unmix _ (u_bd _).1 (u_bd _).2, s_u]
  have : wrap64 (stepZ s) = stepZ s := s_id _ (skip_bd _ _).1 (skip_bd _ _).2
  rw [this, back_step s h0 h1]
theorem next_seed (z : Int) (h0 : 0 ≤ z) (h1 : z < 18446744073709551616) : drawnZ (seedZ z) = z := by
  unfold seedZ drawnZ
  rw [step_back _ (wrap_bd _).1 (wrap_bd _).2, u_s, u_id _ (unZ_bd z h0 h1).1 (unZ_bd z h0 h1).2, mixun z h0 h1]
theorem drawn_bd (s : Int) : 0 ≤ drawnZ s ∧ drawnZ s < 18446744073709551616 := mixZ_bd _ (u_bd _).1 (u_bd _).2
end Go.Proofs.Ytbealadcnpheiaa
