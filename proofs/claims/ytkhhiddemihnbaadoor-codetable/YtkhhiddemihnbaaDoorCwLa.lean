/- CodeWords. -/
import Derived.Test.YtkhhiddemihnbaaDoorCwDc
namespace Go.Proofs.YtkhhiddemihnbaaDoor.Cw
open Go.RowKit Go.Shelf
def uq (n : Nat) (x : Int) : Nat := (x % n).toNat
theorem uq_lt (n : Nat) (hn : 0 < n) (x : Int) : uq n x < n := by
  unfold uq
  have h1 := Int.emod_nonneg x (b := (n : Int)) (by omega)
  have h2 := Int.emod_lt_of_pos x (b := (n : Int)) (by omega)
  omega
theorem mod36 (x : Int) : ∃ k : Nat, k < 36 ∧ wrap64 ((IntKind.u64.wrap x).tmod 36) = (k : Int) := by
  have h0 : 0 ≤ IntKind.u64.wrap x := by unfold IntKind.wrap; simp [IntKind.signed, IntKind.bits]; omega
  rw [Int.tmod_eq_emod_of_nonneg h0]
  generalize IntKind.u64.wrap x = y at *
  refine ⟨(y % 36).toNat, by omega, ?_⟩
  unfold wrap64
  omega
theorem mod21 (x : Int) : ∃ k : Nat, k < 21 ∧ wrap64 ((IntKind.u64.wrap x).tmod 21) = (k : Int) := by
  have h0 : 0 ≤ IntKind.u64.wrap x := by unfold IntKind.wrap; simp [IntKind.signed, IntKind.bits]; omega
  rw [Int.tmod_eq_emod_of_nonneg h0]
  generalize IntKind.u64.wrap x = y at *
  refine ⟨(y % 21).toNat, by omega, ?_⟩
  unfold wrap64
  omega
theorem word_of {k : Nat} (h : k < 36) : word (k : Int) = wordN k := by
  unfold word
  rw [known_of h]
  rfl
theorem found_of {k : Nat} (h : k < 36) : foundI (wordN k) = (k : Int) ∧ foundB (wordN k) = true := by
  unfold foundI foundB
  rw [found_word h]
  simp [h]
theorem no_word {s : ByteArray} (h : s.data.toList = []) : foundB s = false := by
  unfold foundB
  have h1 : ¬ found s < 36 := by
    intro hf
    have e := found_eq hf
    have h2 : ∀ k, k < 36 → (wordN k).data.toList ≠ [] := by decide +kernel
    rw [e] at h
    exact h2 _ hf h
  simp [h1]
set_option maxHeartbeats 3200000 in
set_option maxRecDepth 100000 in
theorem words_law (W : World) (Ad : Nat → Addr) (hO : OpsAt W) (hE : Env8 W Ad) (a b : Int) : Calls Tryd.prog 6 #[.int .i64 a, .int .i64 b] W fun e W' => e = .returned (.bool true) ∧ Below W.heap.size W W' := by
  have HO := hid hO
  have AW := hid (awake_any W Ad hO hE)
  obtain ⟨x, hx, ex⟩ := mod36 a
  obtain ⟨y, hy, ey⟩ := mod36 b
  have NA := hid (fun W' (h : OpsAt W') => name_any W' h (x : Int))
  have NB := hid (fun W' (h : OpsAt W') => name_any W' h (y : Int))
  have N1 : Hid (∀ W', OpsAt W' → Calls Tryd.prog 13 #[.int .i64 (-1)] W' fun e W'' => e = .returned (.string ⟨#[]⟩) ∧ Below W'.heap.size W' W'') := fun W' h => name_any W' h (-1)
  have N36 : Hid (∀ W', OpsAt W' → Calls Tryd.prog 13 #[.int .i64 36] W' fun e W'' => e = .returned (.string ⟨#[]⟩) ∧ Below W'.heap.size W' W'') := fun W' h => name_any W' h 36
  have FA := hid (fun W' (h : OpsAt W') => find_any W' h (wordN x))
  have FN := hid (fun W' (h : OpsAt W') => find_any W' h ⟨#[]⟩)
  have MV := hid (fun W' (h : OpsAt W') => moves_any W' h (x : Int))
  rw [word_of hx] at NA
  rw [word_of hy] at NB
  rw [(found_of hx).1, (found_of hx).2] at FA
  rw [no_word (s := ⟨#[]⟩) rfl] at FN
  have t0 := takes_low (x : Int)
  have t3 := takes_high (x : Int)
  have l0 := lays_low (x : Int)
  have l3 := lays_high (x : Int)
  have hw : ((wordN x).toList == (wordN y).toList) = ((x : Int) == (y : Int)) := by
    have := word_eq hx hy
    unfold eqS at this
    rw [this]
    by_cases e : x = y
    · subst e; simp
    · have e1 : (x == y) = false := by simpa using e
      have e2 : ((x : Int) == (y : Int)) = false := by simp; omega
      rw [e1, e2]
  have he : ((⟨#[]⟩ : ByteArray).toList == (⟨#[]⟩ : ByteArray).toList) = true := beq_self_eq_true _
  generalize foundI ⟨#[]⟩ = fi at *
  generalize takes (x : Int) = t at *
  generalize lays (x : Int) = l at *
  have hxx : ((x : Int) == (x : Int)) = true := beq_self_eq_true _
  clear hO hE hx hy
  go_enter Tryd.func6, Tryd.ntmps6
  go_wp2_with fail
  refine AW.out.mono ?_
  rintro e w1 ⟨rfl, b1⟩
  have B1 := hid b1
  clear b1 AW
  go_wp2_with fail
  rw [ex, ey]
  have N2 := hid (NA.out _ (HO.out.later B1.out))
  refine N2.out.mono ?_
  rintro e w2 ⟨rfl, b2⟩
  have B2 := hid (B1.out.trans (b2.mono B1.out.size))
  have F2 := hid (FA.out _ (HO.out.later B2.out))
  clear b2 N2 FA
  go_wp2_with fail
  refine F2.out.mono ?_
  rintro e w3 ⟨rfl, rfl⟩
  have M3 := hid (MV.out _ (HO.out.later B2.out))
  clear F2 MV
  go_wp2_with fail
  refine M3.out.mono ?_
  rintro e w4 ⟨rfl, b4⟩
  have B4 := hid (B2.out.trans (b4.mono B2.out.size))
  have F4 := hid (FN.out _ (HO.out.later B4.out))
  clear b4 M3 FN
  go_wp2_with fail
  refine F4.out.mono ?_
  rintro e w5 ⟨rfl, rfl⟩
  have N5 := hid (NA.out _ (HO.out.later B4.out))
  clear F4 NA
  go_wp2_with fail
  refine N5.out.mono ?_
  rintro e w6 ⟨rfl, b6⟩
  have B6 := hid (B4.out.trans (b6.mono B4.out.size))
  have N6 := hid (NB.out _ (HO.out.later B6.out))
  clear b6 N5 NB
  go_wp2_with fail
  refine N6.out.mono ?_
  rintro e w7 ⟨rfl, b7⟩
  have B7 := hid (B6.out.trans (b7.mono B6.out.size))
  have N7 := hid (N1.out _ (HO.out.later B7.out))
  clear b7 N6 N1
  go_wp2_with fail
  refine N7.out.mono ?_
  rintro e w8 ⟨rfl, b8⟩
  have B8 := hid (B7.out.trans (b8.mono B7.out.size))
  have N8 := hid (N36.out _ (HO.out.later B8.out))
  clear b8 N7 N36
  go_wp2_with fail
  refine N8.out.mono ?_
  rintro e w9 ⟨rfl, b9⟩
  have B9 := hid (B8.out.trans (b9.mono B8.out.size))
  clear b9 N8
  go_wp2_with fail
  go_ret
  exact ⟨rfl, B9.out⟩
end Go.Proofs.YtkhhiddemihnbaaDoor.Cw
