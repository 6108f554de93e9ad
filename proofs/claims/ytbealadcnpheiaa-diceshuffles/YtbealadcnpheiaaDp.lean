/- Dice, plainly: steps, folds and products, and how they are taken back. -/
import Derived.Test.YtbealadcnpheiaaRows
import Derived.WalkKit
import Derived.Laws.Bits64
namespace Go.Proofs.Ytbealadcnpheiaa
open Go.RowKit
/-- A number's upper bits over its lower ones. -/
def fN (z s : Nat) : Nat := z ^^^ z >>> s
theorem shr_lt {z s : Nat} (h : z < 18446744073709551616) (hs : 64 ≤ s) : z >>> s = 0 := by
  rw [Nat.shiftRight_eq_div_pow]
  exact Nat.div_eq_of_lt (Nat.lt_of_lt_of_le h (Nat.pow_le_pow_right (n := 2) (by decide) hs))
theorem fN_big {z s : Nat} (h : z < 18446744073709551616) (hs : 64 ≤ s) : fN z s = z := by
  unfold fN; rw [shr_lt h hs, Nat.xor_zero]
theorem fN_fN (z a b : Nat) : fN (fN z a) b = z ^^^ z >>> a ^^^ (z >>> b ^^^ z >>> (a + b)) := by
  unfold fN; rw [Nat.shiftRight_xor_distrib, ← Nat.shiftRight_add]
theorem fN_twice (z s : Nat) : fN (fN z s) s = fN z (s + s) := by
  rw [fN_fN]; unfold fN
  apply Nat.eq_of_testBit_eq
  intro i
  simp only [Nat.testBit_xor]
  cases z.testBit i <;> cases (z >>> s).testBit i <;> cases (z >>> (s + s)).testBit i <;> rfl
theorem fN_comm (z a b : Nat) : fN (fN z a) b = fN (fN z b) a := by
  rw [fN_fN, fN_fN, Nat.add_comm b a]
  apply Nat.eq_of_testBit_eq
  intro i
  simp only [Nat.testBit_xor]
  cases z.testBit i <;> cases (z >>> a).testBit i <;> cases (z >>> b).testBit i <;> cases (z >>> (a + b)).testBit i <;> rfl
theorem xl {a b : Nat} (ha : a < 18446744073709551616) (hb : b < 18446744073709551616) : a ^^^ b < 18446744073709551616 := Nat.xor_lt_two_pow (n := 64) ha hb
theorem sl (a s : Nat) (ha : a < 18446744073709551616) : a >>> s < 18446744073709551616 := Nat.lt_of_le_of_lt (Nat.shiftRight_le a s) ha
theorem fN_lt (z s : Nat) (h : z < 18446744073709551616) : fN z s < 18446744073709551616 := xl h (sl z s h)
/-- A fold, taken back. -/
def gN (z s : Nat) : Nat := fN (fN z s) (s + s)
theorem gN_lt (z s : Nat) (h : z < 18446744073709551616) : gN z s < 18446744073709551616 := fN_lt _ _ (fN_lt z s h)
theorem gN_fN (z s : Nat) (h : z < 18446744073709551616) (hs : 64 ≤ s + s + (s + s)) : gN (fN z s) s = z := by
  unfold gN; rw [fN_twice, fN_twice, fN_big h hs]
theorem fN_gN (z s : Nat) (h : z < 18446744073709551616) (hs : 64 ≤ s + s + (s + s)) : fN (gN z s) s = z := by
  unfold gN; rw [fN_comm, fN_twice, fN_twice, fN_big h hs]
theorem mul_inv (z c d : Nat) (h : z < 18446744073709551616) (hc : c * d % 18446744073709551616 = 1) : (z * c % 18446744073709551616) * d % 18446744073709551616 = z := by
  rw [Nat.mod_mul_mod, Nat.mul_assoc, ← Nat.mul_mod_mod, hc, Nat.mul_one, Nat.mod_eq_of_lt h]
def mixN (z : Nat) : Nat := fN (fN (fN z 30 * 13787848793156543929 % 18446744073709551616) 27 * 10723151780598845931 % 18446744073709551616) 31
def unN (z : Nat) : Nat := gN (gN (gN z 31 * 3573116690164977347 % 18446744073709551616) 27 * 10871156337175269513 % 18446744073709551616) 30
theorem ml (a : Nat) : a % 18446744073709551616 < 18446744073709551616 := Nat.mod_lt _ (by decide)
theorem mixN_lt (z : Nat) : mixN z < 18446744073709551616 := fN_lt _ _ (ml _)
theorem unN_lt (z : Nat) : unN z < 18446744073709551616 := gN_lt _ _ (ml _)
theorem un_mix (z : Nat) (h : z < 18446744073709551616) : unN (mixN z) = z := by
  unfold unN mixN
  rw [gN_fN _ 31 (ml _) (by decide), mul_inv _ _ _ (fN_lt _ _ (ml _)) (by decide), gN_fN _ 27 (ml _) (by decide), mul_inv _ _ _ (fN_lt _ _ h) (by decide), gN_fN _ 30 h (by decide)]
theorem mix_un (z : Nat) (h : z < 18446744073709551616) : mixN (unN z) = z := by
  unfold unN mixN
  rw [fN_gN _ 30 (ml _) (by decide), mul_inv _ _ _ (gN_lt _ _ (ml _)) (by decide), fN_gN _ 27 (ml _) (by decide), mul_inv _ _ _ (gN_lt _ _ h) (by decide), fN_gN _ 31 h (by decide)]
/-! As the walks spell them. -/
def fo (z d : Int) : Int := bits .xor .u64 z (z / d)
def mixZ (z : Int) : Int := fo (IntKind.u64.wrap (fo (IntKind.u64.wrap (fo z 1073741824 * 13787848793156543929)) 134217728 * 10723151780598845931)) 2147483648
def g31 (z : Int) : Int := fo (fo z 2147483648) 4611686018427387904
def g27 (z : Int) : Int := fo (fo z 134217728) 18014398509481984
def g30 (z : Int) : Int := fo (fo z 1073741824) 1152921504606846976
def unZ (z : Int) : Int := g30 (IntKind.u64.wrap (g27 (IntKind.u64.wrap (g31 z * 3573116690164977347)) * 10871156337175269513))
def skipU (s m : Int) : Int := IntKind.u64.wrap (IntKind.u64.wrap s + IntKind.u64.wrap (IntKind.u64.wrap m * 11400714819323198485))
def skipZ (s m : Int) : Int := wrap64 (skipU s m)
theorem fo_nat (n s : Nat) (h : n < 18446744073709551616) (d : Int) (hd : d = ((2 ^ s : Nat) : Int)) : fo (n : Int) d = (fN n s : Int) := by
  subst hd
  unfold fo fN
  rw [show (n : Int) / ((2 ^ s : Nat) : Int) = ((n >>> s : Nat) : Int) by rw [Nat.shiftRight_eq_div_pow]; exact (Int.natCast_ediv n (2 ^ s)).symm]
  exact bits_xor_u64_nat n (n >>> s) h (sl n s h)
theorem wrapN (a c : Nat) (d : Int) (hd : d = (c : Int)) : IntKind.u64.wrap ((a : Int) * d) = ((a * c % 18446744073709551616 : Nat) : Int) := by
  subst hd
  rw [IntKind.wrap_u64, Int.natCast_emod, Int.natCast_mul]; rfl
theorem mixZ_nat (n : Nat) (h : n < 18446744073709551616) : mixZ (n : Int) = (mixN n : Nat) := by
  unfold mixZ mixN
  rw [fo_nat n 30 h _ (by decide), wrapN _ 13787848793156543929 13787848793156543929 rfl, fo_nat _ 27 (ml _) _ (by decide), wrapN _ 10723151780598845931 10723151780598845931 rfl, fo_nat _ 31 (ml _) _ (by decide)]
theorem g31_nat (n : Nat) (h : n < 18446744073709551616) : g31 (n : Int) = (gN n 31 : Nat) := by
  unfold g31 gN; rw [fo_nat n 31 h _ (by decide), fo_nat _ (31 + 31) (fN_lt _ _ h) _ (by decide)]
theorem g27_nat (n : Nat) (h : n < 18446744073709551616) : g27 (n : Int) = (gN n 27 : Nat) := by
  unfold g27 gN; rw [fo_nat n 27 h _ (by decide), fo_nat _ (27 + 27) (fN_lt _ _ h) _ (by decide)]
theorem g30_nat (n : Nat) (h : n < 18446744073709551616) : g30 (n : Int) = (gN n 30 : Nat) := by
  unfold g30 gN; rw [fo_nat n 30 h _ (by decide), fo_nat _ (30 + 30) (fN_lt _ _ h) _ (by decide)]
theorem unZ_nat (n : Nat) (h : n < 18446744073709551616) : unZ (n : Int) = (unN n : Nat) := by
  unfold unZ unN
  rw [g31_nat n h, wrapN _ 3573116690164977347 3573116690164977347 rfl, g27_nat _ (ml _), wrapN _ 10871156337175269513 10871156337175269513 rfl, g30_nat _ (ml _)]
theorem unmix (z : Int) (h0 : 0 ≤ z) (h1 : z < 18446744073709551616) : unZ (mixZ z) = z := by
  obtain ⟨n, rfl⟩ := Int.eq_ofNat_of_zero_le h0
  have h : n < 18446744073709551616 := by omega
  rw [mixZ_nat n h, unZ_nat _ (mixN_lt _), un_mix n h]
theorem mixun (z : Int) (h0 : 0 ≤ z) (h1 : z < 18446744073709551616) : mixZ (unZ z) = z := by
  obtain ⟨n, rfl⟩ := Int.eq_ofNat_of_zero_le h0
  have h : n < 18446744073709551616 := by omega
  rw [unZ_nat n h, mixZ_nat _ (unN_lt _), mix_un n h]
theorem unZ_bd (z : Int) (h0 : 0 ≤ z) (h1 : z < 18446744073709551616) : 0 ≤ unZ z ∧ unZ z < 18446744073709551616 := by
  obtain ⟨n, rfl⟩ := Int.eq_ofNat_of_zero_le h0
  have h : n < 18446744073709551616 := by omega
  have := unN_lt n
  rw [unZ_nat n h]; omega
theorem mixZ_bd (z : Int) (h0 : 0 ≤ z) (h1 : z < 18446744073709551616) : 0 ≤ mixZ z ∧ mixZ z < 18446744073709551616 := by
  obtain ⟨n, rfl⟩ := Int.eq_ofNat_of_zero_le h0
  have h : n < 18446744073709551616 := by omega
  have := mixN_lt n
  rw [mixZ_nat n h]; omega
end Go.Proofs.Ytbealadcnpheiaa
