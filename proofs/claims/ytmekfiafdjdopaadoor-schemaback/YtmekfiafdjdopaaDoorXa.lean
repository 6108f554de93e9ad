/- How many numbers a set has. -/
import Derived.Test.YtmekfiafdjdopaaDoorUa
import Derived.Lib.BitFns
import Derived.BigQuiet
namespace Go.Proofs.YtmekfiafdjdopaaDoor
open Go.RowKit Go.Shelf
theorem pop_at (b : Int) (h0 : 0 ≤ b) (h : b < 256) (hh : b.toNat < Lib.pop8tab.size) : (Lib.pop8tab[b.toNat].toNat : Int) = (Lib.onesCount b.toNat : Int) := by
  have e := Lib.pop8_eq ⟨b.toNat, by omega⟩
  simp only [Int.toNat_of_nonneg h0] at e
  rw [← e]
  unfold Lib.pop8
  rw [getElem?_pos Lib.pop8tab b.toNat hh]
  rfl
set_option maxHeartbeats 1600000 in
theorem ones_any (x : Int) (w : World) (_h0 : 0 ≤ x) (_h1 : x ≤ 4294967295) (b3 b2 b1 b0 : Int) (e3 : x / 16777216 = b3) (e2 : bits .and .u32 (x / 65536) 255 = b2) (e1 : bits .and .u32 (x / 256) 255 = b1) (e0 : bits .and .u32 x 255 = b0)
    (r3 : 0 ≤ b3 ∧ b3 < 256) (r2 : 0 ≤ b2 ∧ b2 < 256) (r1 : 0 ≤ b1 ∧ b1 < 256) (r0 : 0 ≤ b0 ∧ b0 < 256) (z : Int) (hz : ((Lib.onesCount b3.toNat : Int) + Lib.onesCount b2.toNat + Lib.onesCount b1.toNat + Lib.onesCount b0.toNat) % 256 = z) :
    Calls Tryd.prog 52 #[.int .u32 x] w fun e w' => e = .returned (.int .i64 z) ∧ Below w.heap.size w w' := by
  obtain ⟨r3a, r3b⟩ := r3
  obtain ⟨r2a, r2b⟩ := r2
  obtain ⟨r1a, r1b⟩ := r1
  obtain ⟨r0a, r0b⟩ := r0
  have hp : (Lib.pop8tab.size : Int) = 256 := by decide +kernel
  have t3 : b3 < (Lib.pop8tab.size : Int) := by omega
  have t2 : b2 < (Lib.pop8tab.size : Int) := by omega
  have t1 : b1 < (Lib.pop8tab.size : Int) := by omega
  have t0 : b0 < (Lib.pop8tab.size : Int) := by omega
  have n3 : b3.toNat < Lib.pop8tab.size := by omega
  have P3 := hid (pop_at b3 r3a r3b n3)
  have n2 : b2.toNat < Lib.pop8tab.size := by omega
  have P2 := hid (pop_at b2 r2a r2b n2)
  have n1 : b1.toNat < Lib.pop8tab.size := by omega
  have P1 := hid (pop_at b1 r1a r1b n1)
  have n0 : b0.toNat < Lib.pop8tab.size := by omega
  have P0 := hid (pop_at b0 r0a r0b n0)
  have HZ := hid hz
  clear hp hz
  go_enter Tryd.func52, Tryd.ntmps52
  go_wp2_with fail
  go_quiet (fail)
  go_wp2_with fail
  go_ret
  refine ⟨?_, ⟨rfl, rfl, rfl, Nat.le_refl _, fun _ _ => rfl⟩⟩
  rw [← HZ.out, ← P3.out, ← P2.out, ← P1.out, ← P0.out]
  rfl
/-- The ones among the first k digits. -/
def ones (k m : Nat) : Nat := Lib.popAux k m
theorem ones_step (k m : Nat) : ones (k + 1) m = ones k m + m / 2 ^ k % 2 := by
  unfold ones
  induction k generalizing m with
  | zero => simp [Lib.popAux]
  | succ k ih =>
    rw [Lib.popAux, ih (m / 2), Lib.popAux, Nat.pow_succ, Nat.div_div_eq_div_mul, Nat.mul_comm 2 (2 ^ k)]
    omega
theorem ones_le (k m : Nat) : ones k m ≤ k := by
  induction k with
  | zero => simp [ones, Lib.popAux]
  | succ k ih => rw [ones_step]; omega
theorem ones8_mod (m : Nat) : ones 8 (m % 256) = ones 8 m := by
  simp only [ones, Lib.popAux]
  omega
theorem ones_more (k m : Nat) : ones (8 + k) m = ones 8 m + ones k (m / 256) := by
  unfold ones
  rw [show 8 + k = k + 1 + 1 + 1 + 1 + 1 + 1 + 1 + 1 by omega]
  simp only [Lib.popAux, Nat.div_div_eq_div_mul, Nat.reduceMul]
  omega
theorem ones64 : ∀ n : Fin 256, Lib.onesCount n.val = ones 8 n.val := by decide +kernel
theorem ones32 (m : Nat) : ones 32 m = ones 8 (m / 16777216 % 256) + ones 8 (m / 65536 % 256) + ones 8 (m / 256 % 256) + ones 8 (m % 256) := by
  rw [ones8_mod, ones8_mod, ones8_mod, ones8_mod, show 32 = 8 + (8 + (8 + 8)) from rfl, ones_more, ones_more, ones_more]
  simp only [Nat.div_div_eq_div_mul, Nat.reduceMul]
  omega
theorem and255 (a : Nat) (h : a < 4294967296) : bits .and .u32 (a : Int) 255 = ((a % 256 : Nat) : Int) := by
  have := bits_mask .u32 32 (by decide) (fun n h0 h1 => by rw [IntKind.wrap_u32]; omega) 8 (by decide) (a : Int) (by omega) (by omega)
  rw [show (255 : Int) = 2 ^ 8 - 1 by decide, this]
  omega
theorem count32 (m : Nat) (h : m < 4294967296) (w : World) : Calls Tryd.prog 52 #[.int .u32 (m : Int)] w fun e w' => e = .returned (.int .i64 (ones 32 m : Int)) ∧ Below w.heap.size w w' := by
  have o := fun (n : Nat) (hn : n < 256) => ones64 ⟨n, hn⟩
  have q3 := o (m / 16777216 % 256) (Nat.mod_lt _ (by decide))
  have q2 := o (m / 65536 % 256) (Nat.mod_lt _ (by decide))
  have q1 := o (m / 256 % 256) (Nat.mod_lt _ (by decide))
  have q0 := o (m % 256) (Nat.mod_lt _ (by decide))
  simp only [] at q3 q2 q1 q0
  have l := ones_le 32 m
  refine ones_any (m : Int) w (by omega) (by omega) ((m / 16777216 % 256 : Nat) : Int) ((m / 65536 % 256 : Nat) : Int) ((m / 256 % 256 : Nat) : Int) ((m % 256 : Nat) : Int) (by omega) ?_ ?_ (and255 m h) (by omega) (by omega) (by omega) (by omega) _ ?_
  · rw [← and255 (m / 65536) (by omega)]; rfl
  · rw [← and255 (m / 256) (by omega)]; rfl
  · simp only [Int.toNat_natCast]
    rw [q3, q2, q1, q0, ones32 m] at *
    omega
end Go.Proofs.YtmekfiafdjdopaaDoor
