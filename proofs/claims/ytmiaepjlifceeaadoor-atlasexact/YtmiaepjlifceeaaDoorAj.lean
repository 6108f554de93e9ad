/- errors.Is of what an atlas tells; awake. -/
import Derived.Test.YtmiaepjlifceeaaDoorAi
namespace Go.Proofs.YtmiaepjlifceeaaDoor
open Go.RowKit Go.Shelf Go.Maps
theorem Env3.same {w : World} {Ad : Nat → Addr} (h : Env3 w Ad) {p k : Nat} (hp : p ∈ three) (hk : k ∈ three) : decide (Ad p = Ad k) = decide (p = k) := by
  by_cases e : p = k
  · subst e; simp
  · have : Ad p ≠ Ad k := fun h' => e (h.inj p hp k hk h')
    simp [e, this]
theorem is_err (Ad : Nat → Addr) {W : World} {v : Value} {p k d : Nat} (hE : Env3 W Ad) (h : Err Ad W v p d) (hp : p ∈ three) (hk : k ∈ three) :
    Calls Tryd.prog 11 #[v, .iface 104 (.pointer (some (Ad k)))] W fun e W' => e = .returned (.bool (decide (p = k))) ∧ Below W.heap.size W W' := by
  obtain ⟨ws, h⟩ := h
  obtain ⟨t, q, rfl, -⟩ := h.1.shape
  refine is_by Ad k t q _ W ((eis_gen Ad W.heap.size k W ws _ p (hE.sen p hp) (hE.sen k hk) (hE.same hp hk) h.1).mono ?_)
  rintro e w' ⟨rfl, rfl⟩
  exact ⟨rfl, Below.refl _ _⟩
theorem ints_lit (W : World) (a b c : Nat) : Ints W.heap.size (W.alloc (.cells #[.int .i64 (a : Int), .int .i64 (b : Int), .int .i64 (c : Int)] 3)) (.slice (some ⟨W.heap.size, 0, none⟩) 3 3) [a, b, c] :=
  ⟨rfl, .inr ⟨W.heap.size, 3, #[.int .i64 (a : Int), .int .i64 (b : Int), .int .i64 (c : Int)], rfl, Nat.le_refl _, heap_alloc_new W _, Nat.le_refl _, by unfold maxLen; omega, rfl, rfl⟩⟩
theorem ints_two (W : World) (a b : Nat) : Ints W.heap.size (W.alloc (.cells #[.int .i64 (a : Int), .int .i64 (b : Int)] 3)) (.slice (some ⟨W.heap.size, 0, none⟩) 2 2) [a, b] :=
  ⟨rfl, .inr ⟨W.heap.size, 2, #[.int .i64 (a : Int), .int .i64 (b : Int)], rfl, Nat.le_refl _, heap_alloc_new W _, Nat.le_refl _, by unfold maxLen; omega, rfl, rfl⟩⟩
theorem way_awake : way [0, 3, 7, 6] 1 3 6 = ⟨6, [0, 3, 7, 6, 2], [1, 4, 3]⟩ := by kernel_rfl
theorem mtc_awake : mtc [0, 3, 7, 6, 2] 2 1 5 = [3, 4] := by kernel_rfl
theorem Goes.below {B : Nat} {W W' : World} {rb : Nat} {s s' : AS} {S : Nat → Prop} (h : Atl B W rb s S) (hg : Goes B rb s' S W W') : Below B W W' := by
  obtain ⟨S', a, st, f⟩ := hg
  exact h.below st
set_option maxHeartbeats 6400000 in
set_option maxRecDepth 100000 in
theorem awake_any (w : World) (Ad : Nat → Addr) (hE : Env3 w Ad) :
    Calls Tryd.prog 8 #[] w fun e w' => e = .returned (.bool true) ∧ Below w.heap.size w w' := by
  have HE := hid hE
  clear hE
  have N : Hid (Calls Tryd.prog 9 #[.int .i64 4] w fun e W' => ∃ rb S, e = .returned (.tuple #[.pointer (some ⟨rb, 0, none⟩), .nilIface]) ∧ Atl w.heap.size W' rb ⟨4, [0]⟩ S ∧ Below w.heap.size w W') := new_ok w 4 (by decide)
  go_enter Tryd.func8, Tryd.ntmps8
  go_wp2_with fail
  refine N.out.mono ?_
  rintro e w1 ⟨rb, S1, rfl, h1, b1⟩
  have B1 := hid b1
  have A1 : Hid (Calls Tryd.prog 12 #[.pointer (some ⟨rb, 0, none⟩), .int .u32 3] w1 fun e W' => e = .returned (.tuple #[.int .i64 1, .nilIface]) ∧ Goes w.heap.size rb ⟨4, [0, 3]⟩ S1 w1 W') := at_ok h1 3 (by decide)
  have Q1 := hid h1
  clear N h1 b1
  go_wp2_with fail
  refine A1.out.mono ?_
  rintro e w2 ⟨rfl, g2⟩
  have B2 := hid (B1.out.trans (g2.below Q1.out))
  obtain ⟨S2, a2, -, -⟩ := g2
  have A2 : Hid (Calls Tryd.prog 24 #[.pointer (some ⟨rb, 0, none⟩), .int .i64 1, .int .i64 2] w2 fun e W' => e = .returned (.tuple #[.int .i64 2, .nilIface]) ∧ Goes w.heap.size rb ⟨4, [0, 3, 7]⟩ S2 w2 W') := awith_ok a2 1 3 rfl 2 (by decide)
  have Q2 := hid a2
  clear A1 B1 Q1 a2
  go_wp2_with fail
  refine A2.out.mono ?_
  rintro e w3 ⟨rfl, g3⟩
  have B3 := hid (B2.out.trans (g3.below Q2.out))
  obtain ⟨S3, a3, -, -⟩ := g3
  have A3 : Hid (Calls Tryd.prog 25 #[.pointer (some ⟨rb, 0, none⟩), .int .i64 2, .int .i64 0] w3 fun e W' => e = .returned (.tuple #[.int .i64 3, .nilIface]) ∧ Goes w.heap.size rb ⟨4, [0, 3, 7, 6]⟩ S3 w3 W') := awithout_ok a3 2 7 rfl 0 (by decide)
  have Q3 := hid a3
  clear A2 B2 Q2 a3
  go_wp2_with fail
  refine A3.out.mono ?_
  rintro e w4 ⟨rfl, g4⟩
  have B4 := hid (B3.out.trans (g4.below Q3.out))
  obtain ⟨S4, a4, -, -⟩ := g4
  have A4 : Hid (Calls Tryd.prog 17 #[.pointer (some ⟨rb, 0, none⟩), .int .i64 1, .int .i64 3] w4 fun e W' => ∃ v, e = .returned (.tuple #[v, .nilIface]) ∧ Ints w4.heap.size W' v [1, 4, 3] ∧ ∃ S', Atl w.heap.size W' rb ⟨4, [0, 3, 7, 6, 2]⟩ S' ∧ St S4 w4 W' ∧ (∀ x, S' x → S4 x ∨ w4.heap.size ≤ x) ∧ ∀ k, v.ownBlock = some k → ¬ S' k) := by
    have := way_ok a4 1 3 3 6 rfl rfl
    rw [way_awake] at this
    exact this
  have Q4 := hid a4
  clear A3 B3 Q3 a4
  go_wp2_with fail
  refine A4.out.mono ?_
  rintro e w5 ⟨lv, rfl, i5, S5, a5, st5, -, -⟩
  obtain ⟨la, lc, rfl⟩ := i5.slice
  have B5 := hid (B4.out.trans (Q4.out.below st5))
  have I5 := hid (i5.lower B4.out.size)
  have Q5 := hid a5
  obtain ⟨lg, rfl, -, -⟩ := i5.some (by decide)
  have A5 : Hid (Calls Tryd.prog 12 #[.pointer (some ⟨rb, 0, none⟩), .int .u32 16] w5 fun e W' => ∃ t q, e = .returned (.tuple #[.int .i64 0, .iface t q]) ∧ Err Ad W' (.iface t q) 1 1 ∧ Below w5.heap.size w5 W') := at_bad Ad a5 (HE.out.later B5.out) 16 (by decide) (by decide)
  clear A4 B4 Q4 i5 a5 st5
  go_wp2_with fail
  refine A5.out.mono ?_
  rintro e w6 ⟨t6, q6, rfl, v6, b6⟩
  have V6 := hid v6
  have B6 := hid (B5.out.trans (b6.mono B5.out.size))
  have I6 := hid (I5.out.later b6)
  have Q6 := hid (Q5.out.later b6)
  have A6 : Hid (Calls Tryd.prog 23 #[.pointer (some ⟨rb, 0, none⟩), .int .i64 9] w6 fun e W' => ∃ t q, e = .returned (.tuple #[.int .u32 0, .iface t q]) ∧ Err Ad W' (.iface t q) 7 1 ∧ Below w6.heap.size w6 W') := mask_none Ad Q6.out (HE.out.later B6.out) 9 (.inr (by decide))
  clear A5 B5 I5 Q5 v6 b6
  go_wp2_with fail
  refine A6.out.mono ?_
  rintro e w11 ⟨t7, q7, rfl, v7, b7⟩
  have V7 := hid v7
  have U7 := hid (V6.out.later b7)
  have B7 := hid (B6.out.trans (b7.mono B6.out.size))
  have I7 := hid (I6.out.later b7)
  have Q7 := hid (Q6.out.later b7)
  clear A6 B6 I6 Q6 V6 v7 b7
  have EE : Hid (∀ W', Below w11.heap.size w11 W' → Env3 W' Ad) := fun W' hb => HE.out.later (B7.out.trans (hb.mono B7.out.size))
  have KK : Hid (∀ W', Below w11.heap.size w11 W' → W'.cell? ⟨0, 0, none⟩ = some (.iface 104 (.pointer (some (Ad 1)))) ∧ W'.cell? ⟨2, 0, none⟩ = some (.iface 104 (.pointer (some (Ad 7))))) := fun W' hb => ⟨(EE.out W' hb).c1, (EE.out W' hb).c7⟩
  have C1 : Hid (∀ W', Below w11.heap.size w11 W' → Calls Tryd.prog 11 #[.iface t6 q6, .iface 104 (.pointer (some (Ad 1)))] W' fun e w' => e = .returned (.bool true) ∧ Below w11.heap.size w11 w') := fun W' hb =>
    (is_err Ad (EE.out W' hb) (U7.out.later hb) (by decide) (by decide)).mono fun e w' ⟨he, h⟩ => ⟨he, hb.trans (h.mono hb.size)⟩
  have C7 : Hid (∀ W', Below w11.heap.size w11 W' → Calls Tryd.prog 11 #[.iface t7 q7, .iface 104 (.pointer (some (Ad 7)))] W' fun e w' => e = .returned (.bool true) ∧ Below w11.heap.size w11 w') := fun W' hb =>
    (is_err Ad (EE.out W' hb) (V7.out.later hb) (by decide) (by decide)).mono fun e w' ⟨he, h⟩ => ⟨he, hb.trans (h.mono hb.size)⟩
  have CL : Hid (∀ W', Below w11.heap.size w11 W' → Calls Tryd.prog 22 #[.pointer (some ⟨rb, 0, none⟩)] W' fun e w' => e = .returned (.int .i64 5) ∧ w' = W') := fun W' hb => atl_len (Q7.out.later hb)
  have CM : Hid (∀ W', Below w11.heap.size w11 W' → Calls Tryd.prog 20 #[.pointer (some ⟨rb, 0, none⟩), .int .u32 2, .int .u32 1] W' fun e w' => ∃ a c, e = .returned (.slice a 2 c) ∧ Ints w11.heap.size w' (.slice a 2 c) [3, 4] ∧ Below w11.heap.size w11 w' ∧ Below W'.heap.size W' w') := fun W' hb =>
    (match_any (Q7.out.later hb) 2 1 (by decide) (by decide)).mono fun e w' ⟨v, he, hi, h⟩ => by
      have hi : Ints W'.heap.size w' v (mtc [0, 3, 7, 6, 2] 2 1 5) := hi
      rw [mtc_awake] at hi
      obtain ⟨a, c, rfl⟩ := hi.slice
      exact ⟨a, c, he, hi.lower hb.size, hb.trans (h.mono hb.size), h⟩
  have S3 : Hid (∀ W' u, Below w11.heap.size w11 W' → Ints w11.heap.size W' u [1, 4, 3] → Calls Tryd.prog 19 #[.slice (some ⟨lg, 0, none⟩) 3 lc, u] W' fun e w' => e = .returned (.bool true) ∧ Below w11.heap.size w11 w') := fun W' u hb hu =>
    (same_any (I7.out.later hb) hu (by decide)).mono fun e w' ⟨he, h⟩ => ⟨he, hb.trans (h.mono hb.size)⟩
  have S2 : Hid (∀ W' v u, Below w11.heap.size w11 W' → Ints w11.heap.size W' v [3, 4] → Ints w11.heap.size W' u [3, 4] → Calls Tryd.prog 19 #[v, u] W' fun e w' => e = .returned (.bool true) ∧ Below w11.heap.size w11 w') := fun W' v u hb hv hu =>
    (same_any hv hu (by decide)).mono fun e w' ⟨he, h⟩ => ⟨he, hb.trans (h.mono hb.size)⟩
  have O3 : Hid (∀ W', Below w11.heap.size w11 W' → Ints w11.heap.size (W'.alloc (.cells #[.int .i64 1, .int .i64 4, .int .i64 3] 3)) (.slice (some ⟨W'.heap.size, 0, none⟩) 3 3) [1, 4, 3]) := fun W' hb => (ints_lit W' 1 4 3).lower hb.size
  have O2 : Hid (∀ W', Below w11.heap.size w11 W' → Ints w11.heap.size (W'.alloc (.cells #[.int .i64 3, .int .i64 4] 3)) (.slice (some ⟨W'.heap.size, 0, none⟩) 2 2) [3, 4]) := fun W' hb => (ints_two W' 3 4).lower hb.size
  clear U7 V7 Q7 I7
  have P3 := hid (S3.out _ _ (bAl w11 _) (O3.out w11 (Below.refl _ _)))
  go_wp2_with fail
  refine P3.out.mono ?_
  rintro e w12 ⟨rfl, hb12⟩
  have k1 := (KK.out _ hb12).1
  have D1 := hid (C1.out _ hb12)
  clear P3 S3 O3
  go_wp2_with fail
  refine D1.out.mono ?_
  rintro e w13 ⟨rfl, hb13⟩
  clear hb12 k1 D1
  have k7 := (KK.out _ hb13).2
  have D7 := hid (C7.out _ hb13)
  go_wp2_with fail
  refine D7.out.mono ?_
  rintro e w14 ⟨rfl, hb14⟩
  clear hb13 k7 D7
  have DL := hid (CL.out _ hb14)
  have DM := hid (CM.out _ hb14)
  clear hb14
  go_wp2_with fail
  refine DL.out.mono ?_
  rintro e w15 ⟨rfl, rfl⟩
  clear DL
  go_wp2_with fail
  refine DM.out.mono ?_
  rintro e w16 ⟨a16, c16, rfl, hi16, hb16, -⟩
  have P2 := hid (S2.out _ _ _ (balloc hb16 _) (hi16.later (bAl _ _)) (O2.out _ hb16))
  clear DM hb16 hi16
  go_wp2_with fail
  refine P2.out.mono ?_
  rintro e w17 ⟨rfl, hb17⟩
  have BF := hid (B7.out.trans (hb17.mono B7.out.size))
  clear P2 hb17 KK EE C1 C7 CL CM S2 O2
  go_wp2_with fail
  go_ret
  exact ⟨rfl, BF.out⟩
end Go.Proofs.YtmiaepjlifceeaaDoor
