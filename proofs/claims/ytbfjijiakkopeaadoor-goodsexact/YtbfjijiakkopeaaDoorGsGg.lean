/- Goods: awake. -/
import Derived.Test.YtbfjijiakkopeaaDoorGsGf
namespace Go.Proofs.YtbfjijiakkopeaaDoor.Gs
open Go.RowKit Go.Shelf Go.Maps
open Go.Proofs.YtbfjijiakkopeaaDoor.Sc (Cmp Rsc CmpRow RscRow SmallC SmallQ checkL dig)
/-- Put of nothing, where there is one number. -/
theorem put_one {Ad : Nat → Addr} {B : Nat} {W : World} {gb mb : Nat} {v : Value} {ns : List ByteArray} {x : Int} {n : Nat} (h : Gd B W gb mb v ns [x] n) (hE : Env8 W Ad) :
    Calls Tryd.prog 16 #[.pointer (some ⟨gb, 0, none⟩), .slice none 0 0] W fun e W' => ∃ t q, e = .returned (.iface t q) ∧ Err Ad W' (.iface t q) 1 4 ∧ Below W.heap.size W W' := by
  refine (put_bad h hE none 0 0 (by omega) (by simp)).mono ?_
  rintro e w' ⟨b, s, t, q, rfl, hb, ht, hw⟩
  refine ⟨_, _, rfl, ?_, hw⟩
  rcases ht with ⟨-, e⟩ | ⟨p, e, hp⟩ | ⟨b', vs, -, e, hs⟩
  · simp [amL] at e
  · have e' : p = ([dig 0], 1) := by simp [amL] at e; exact e.symm
    subst e'
    refine ⟨s :: [dig 0], ⟨b, .iface t q, rfl, (Array.getElem?_eq_some_iff.1 hb).1, cell_blk hb rfl, cell_blk hb rfl, hp.1⟩, by simp, by simp, by simp⟩
  · have := congrArg List.length e
    have h2 := hs.two
    simp [amL] at this
    omega
def bScore : ByteArray := ⟨#[115, 99, 111, 114, 101]⟩
def rScore : List Rsc := [⟨bScore, 3⟩]
theorem score_ok : checkL [] rScore = [] := by kernel_rfl
theorem pl_score : pl [bScore] bScore = 0 := by kernel_rfl
theorem mem_score : Sc.memB [bScore] bScore = true := by kernel_rfl
set_option maxHeartbeats 4000000 in
set_option maxRecDepth 100000 in
theorem awake_any (Ad : Nat → Addr) (W : World) (hE : Env8 W Ad) : Calls Tryd.prog 6 #[] W fun e W' => e = .returned (.bool true) ∧ Below W.heap.size W W' := by
  obtain ⟨w0, hw0⟩ : ∃ w0, w0 = W.alloc (.cells #[.string bScore, .int .i64 3] 65) := ⟨_, rfl⟩
  have b0 : Below W.heap.size W w0 := by rw [hw0]; exact bAl _ _
  have r0 : w0.heap[W.heap.size]? = some (.cells #[.string bScore, .int .i64 3] 65 (0, 0)) := by rw [hw0]; exact heap_alloc_new W _
  have NW : Hid (Calls Tryd.prog 7 #[.agg #[.slice none 0 0, .slice (some ⟨W.heap.size, 0, none⟩) 1 1]] w0 fun e w' => ∃ gb, e = .returned (.tuple #[.pointer (some ⟨gb, 0, none⟩), .nilIface]) ∧ (∃ mb v, Gd w0.heap.size w' gb mb v [bScore] [3] 0) ∧ Below w0.heap.size w0 w') :=
    new_ok Ad w0 _ _ [] rScore (hE.later b0) ⟨none, 0, rfl, Nat.le_refl _, .inl rfl⟩ ⟨some ⟨W.heap.size, 0, none⟩, 1, rfl, Nat.le_refl _, .inr ⟨W.heap.size, 0, rfl, fun j x hx => by
      match j, hx with
      | 0, hx => simp [rScore] at hx; subst hx; exact ⟨cell_blk r0 rfl, cell_blk r0 rfl⟩
      | j + 1, hx => simp [rScore] at hx⟩⟩ ⟨by simp, trivial⟩ ⟨by decide, trivial⟩ score_ok
  have HW0 := hid hw0
  have B0 := hid b0
  have HE := hid hE
  clear hE hw0 b0 r0
  go_enter Tryd.func6, Tryd.ntmps6
  go_wp2_with fail
  rw [show (W.alloc (.cells #[.string { data := #[115, 99, 111, 114, 101] }, .int .i64 3] 65)) = w0 from HW0.out.symm]
  refine NW.out.mono ?_
  rintro e w1 ⟨gb, rfl, ⟨mb, v, h1⟩, hb1⟩
  have B1 := hid (B0.out.trans (hb1.mono B0.out.size))
  have A1 : Hid (Calls Tryd.prog 15 #[.pointer (some ⟨gb, 0, none⟩), .int .i64 0, .int .i64 4] w1 fun e W' => e = .returned (.tuple #[.int .i64 7, .nilIface]) ∧ Gd w0.heap.size W' gb mb v [bScore] [7] 1 ∧ St (Ft gb v) w1 W') := by
    have := add_in h1 (by omega) 0 4 3 rfl
    rw [show wrap64 (3 + 4) = 7 by unfold wrap64; omega] at this
    exact this
  have H1 := hid h1
  clear NW h1 hb1
  go_wp2_with fail
  refine A1.out.mono ?_
  rintro e w2 ⟨rfl, h2, s2⟩
  have B2 := hid (B1.out.trans (s2.below (B := W.heap.size) (fun k hk => Nat.le_trans B0.out.size (H1.out.lt k hk.all).1) B1.out.size))
  have A2 : Hid (Calls Tryd.prog 11 #[.pointer (some ⟨gb, 0, none⟩), .int .i64 0, .int .i64 1] w2 fun e W' => e = .returned (.tuple #[.int .i64 7, .nilIface]) ∧ Gd w0.heap.size W' gb mb v [bScore] [1] 2 ∧ St (Ft gb v) w2 W') := set_in h2 (by omega) 0 1 7 rfl
  have H2 := hid h2
  clear A1 h2 s2
  go_wp2_with fail
  refine A2.out.mono ?_
  rintro e w3 ⟨rfl, h3, s3⟩
  have B3 := hid (B2.out.trans (s3.below (B := W.heap.size) (fun k hk => Nat.le_trans B0.out.size (H2.out.lt k hk.all).1) B2.out.size))
  have A3 : Hid (Calls Tryd.prog 20 #[.pointer (some ⟨gb, 0, none⟩), .string ⟨#[115, 99, 111, 114, 101]⟩] w3 fun e W' => e = .returned (.tuple #[.int .i64 0, .bool true]) ∧ W' = w3) := by
    have := named_any h3 bScore (by decide)
    rw [pl_score, mem_score] at this
    exact this
  have H3 := hid h3
  have A4 : Hid (Calls Tryd.prog 11 #[.pointer (some ⟨gb, 0, none⟩), .int .i64 1, .int .i64 0] w3 fun e W' => ∃ t q, e = .returned (.tuple #[.int .i64 0, .iface t q]) ∧ Err Ad W' (.iface t q) 7 1 ∧ Below w3.heap.size w3 W') := set_out h3 (HE.out.later B3.out) 1 0 rfl
  clear A2 h3 s3
  go_wp2_with fail
  refine A3.out.mono ?_
  rintro e w' ⟨rfl, hq⟩
  obtain rfl := hq.symm
  clear hq A3
  go_wp2_with fail
  refine A4.out.mono ?_
  rintro e w4 ⟨t4, q4, rfl, hv4, hb4⟩
  have H4 := hid (H3.out.later hb4)
  have V4 := hid hv4
  have B4 := hid (B3.out.trans (hb4.mono B3.out.size))
  clear A4 hv4 hb4
  have KK : Hid (∀ W', Below w4.heap.size w4 W' → W'.cell? ⟨1, 0, none⟩ = some (.iface 154 (.pointer (some (Ad 7)))) ∧ W'.cell? ⟨2, 0, none⟩ = some (.iface 154 (.pointer (some (Ad 1))))) := fun W' hb => by
    have E' := HE.out.later (B4.out.trans (hb.mono B4.out.size))
    exact ⟨E'.k7, E'.k1⟩
  have EE : Hid (∀ W', Below w4.heap.size w4 W' → Env8 W' Ad) := fun W' hb => HE.out.later (B4.out.trans (hb.mono B4.out.size))
  have C1 : Hid (∀ W', Below w4.heap.size w4 W' → Calls Tryd.prog 19 #[.pointer (some ⟨gb, 0, none⟩)] W' fun e w' => e = .returned (.int .i64 2) ∧ Below w4.heap.size w4 w') := fun W' hb => (changes_any (H4.out.later hb)).mono fun _ _ ⟨q1, q2⟩ => ⟨q1, by rw [q2]; exact hb⟩
  have C2 : Hid (∀ W', Below w4.heap.size w4 W' → Calls Tryd.prog 26 #[.iface t4 q4, .iface 154 (.pointer (some (Ad 7)))] W' fun e w' => e = .returned (.bool true) ∧ Below w4.heap.size w4 w') := fun W' hb => (is_err Ad (EE.out _ hb) (V4.out.later hb) (p := 7) (k := 7) (by decide) (by decide)).mono fun _ _ ⟨q1, q2⟩ => ⟨q1, hb.trans (q2.mono hb.size)⟩
  have C3 : Hid (∀ W', Below w4.heap.size w4 W' → Calls Tryd.prog 16 #[.pointer (some ⟨gb, 0, none⟩), .slice none 0 0] W' fun e w' => ∃ t q, e = .returned (.iface t q) ∧ Err Ad w' (.iface t q) 1 4 ∧ Below w4.heap.size w4 w') := fun W' hb => (put_one (H4.out.later hb) (EE.out _ hb)).mono fun _ _ ⟨t, q, q1, q2, q3⟩ => ⟨t, q, q1, q2, hb.trans (q3.mono hb.size)⟩
  have C4 : Hid (∀ W' t q, Err Ad W' (.iface t q) 1 4 → Below w4.heap.size w4 W' → Calls Tryd.prog 26 #[.iface t q, .iface 154 (.pointer (some (Ad 1)))] W' fun e w' => e = .returned (.bool true) ∧ Below w4.heap.size w4 w') := fun W' t q hv hb => (is_err Ad (EE.out _ hb) hv (p := 1) (k := 1) (by decide) (by decide)).mono fun _ _ ⟨q1, q2⟩ => ⟨q1, hb.trans (q2.mono hb.size)⟩
  go_upto_region 8 with fail
  go_region_held3 (fun W' => W'.cell? ⟨1, 0, none⟩ = some (.iface 154 (.pointer (some (Ad 7)))) ∧ W'.cell? ⟨2, 0, none⟩ = some (.iface 154 (.pointer (some (Ad 1)))))
    (first | exact KK.out _ (by assumption) | exact KK.out _ (Below.refl _ _).drew | exact KK.out _ (Below.refl _ _))
    (first
      | (go_at_call_of 26 (Value.iface t4 q4); refine (C2.out _ (by first | assumption | exact (Below.refl _ _).drew | exact Below.refl _ _)).mono ?_; rintro e w9 ⟨rfl, hb9⟩)
      | (go_at_call 19; refine (C1.out _ (by first | assumption | exact (Below.refl _ _).drew | exact Below.refl _ _)).mono ?_; rintro e w10 ⟨rfl, hb10⟩)
      | (go_at_call 16; refine (C3.out _ (by assumption)).mono ?_; rintro e w11 ⟨t11, q11, rfl, hv11, hb11⟩)
      | (go_at_call 26; refine (C4.out _ _ _ (by assumption) (by assumption)).mono ?_; rintro e w12 ⟨rfl, hb12⟩))
  all_goals
    have BF := hid (B4.out.trans (hb12.mono B4.out.size))
    clear KK C1 C2 C3 C4
    go_wp2_with fail
    go_ret
    exact ⟨rfl, BF.out⟩
end Go.Proofs.YtbfjijiakkopeaaDoor.Gs
