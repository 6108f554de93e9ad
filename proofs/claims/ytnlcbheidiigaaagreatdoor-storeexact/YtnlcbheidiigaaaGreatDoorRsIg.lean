/- A part of StoreExact. -/
import Derived.Test.YtnlcbheidiigaaaGreatDoorRsIf
namespace Go.Proofs.YtnlcbheidiigaaaGreatDoor
namespace Rs
open Go.RowKit Go.Shelf Go.Maps
open At (bAl cell_blk blk_seen)
open Sc (Cmp Rsc CmpRow RscRow checkL checkL_ok rcheck_any chk_ws)
open YtnlcbheidiigaaaGreatDoor.So (al madeS)
set_option maxHeartbeats 51200000 in
set_option maxRecDepth 1000000 in
theorem exact_law (W : World) (Ad : Nat → Addr) (hE : Env W Ad) (va vb : Value) (cs : List Cmp) (rs : List Rsc) (hC : CmpRow W va cs) (hQ : RscRow W vb rs) (pn : Int) (av : Value) (xs : List AX) (hA : AR W av xs) :
  Calls Tryz.prog 3 #[.agg #[va, vb], .int .i64 pn, av] W fun e W' => e = .returned (.bool true) ∧ Below W.heap.size W W' := by
 obtain ⟨w0, hw0⟩ : ∃ w0, w0 = W.alloc (.cells #[va, vb] 25) := ⟨_, rfl⟩
 have b0 : Below W.heap.size W w0 := by rw [hw0]; exact bAl _ _
 have r0 : w0.heap[W.heap.size]? = some (.cells #[va, vb] 25 (0, 0)) := by rw [hw0]; exact heap_alloc_new W _
 have AW := hid (So.awake_any Ad w0 (hE.later b0).eight)
 have HC := hid hC
 have HQ := hid hQ
 have HA := hid hA
 have HE := hid hE
 obtain ⟨a, c, rfl, -, -⟩ := hC
 obtain ⟨a', c', rfl, -, -⟩ := hQ
 obtain ⟨ca, cc, rfl, -, -⟩ := hA
 have HW0 := hid hw0
 have B0 := hid b0
 have R0 := hid r0
 clear hE hw0 b0 r0
 go_enter Tryz.func3, Tryz.ntmps3
 go_upto_region 1 with fail
 rw [← HW0.out]
 go_wp2_with fail
 refine AW.out.mono ?_
 rintro e w1 ⟨rfl, hb1⟩
 have r1 := blk_seen hb1 (Nat.le_refl _) R0.out
 have B1 := hid (B0.out.trans (hb1.mono B0.out.size))
 have y0 : w1.cell? ⟨W.heap.size, 0, none⟩ = some (.slice a cs.length c) := cell_blk r1 rfl
 have y1 : w1.cell? ⟨W.heap.size, 1, none⟩ = some (.slice a' rs.length c') := cell_blk r1 rfl
 have R1 := hid r1
 have GR := hid (great_any w1 _ _ cs rs (HC.out.later B1.out) (HQ.out.later B1.out) _ xs (HA.out.later B1.out))
 clear AW hb1 r1 HW0 B0 R0
 go_wp2_with fail
 refine GR.out.mono ?_
 rintro e w2 ⟨⟨G, rfl, hG⟩, hb2⟩
 have r2 := blk_seen hb2 (Nat.le_refl _) R1.out
 have B2 := hid (B1.out.trans (hb2.mono B1.out.size))
 have R2 := hid r2
 have y0 : w2.cell? ⟨W.heap.size, 0, none⟩ = some (.slice a cs.length c) := cell_blk r2 rfl
 have y1 : w2.cell? ⟨W.heap.size, 1, none⟩ = some (.slice a' rs.length c') := cell_blk r2 rfl
 clear GR hb2 r2 R1
 cases G with
 | true =>
  clear hG
  go_wp2_with fail
  go_ret
  exact ⟨rfl, B2.out⟩
 | false =>
 have HG := hid (hG rfl)
 have E2 := hid (HE.out.later B2.out)
 clear hG
 by_cases hck : checkL cs rs = []
 ·by_cases hpn : pn < 0 ∨ 64 < pn
  ·have NB := hid (So.new_places Ad w2 _ _ cs rs E2.out.eight (HC.out.later B2.out) (HQ.out.later B2.out) HG.out.1 HG.out.2.1 hck pn hpn)
   have HCK := hid hck
   have HPN := hid hpn
   clear hck hpn
   go_wp2_with fail
   refine NB.out.mono ?_
   rintro e w3 ⟨t2, q2, rfl, ht3, hb3⟩
   have r3 := blk_seen hb3 (Nat.le_refl _) R2.out
   have B3 := hid (B2.out.trans (hb3.mono B2.out.size))
   have R3 := hid r3
   have T3 := hid ht3
   have y0 : w3.cell? ⟨W.heap.size, 0, none⟩ = some (.slice a cs.length c) := cell_blk r3 rfl
   have y1 : w3.cell? ⟨W.heap.size, 1, none⟩ = some (.slice a' rs.length c') := cell_blk r3 rfl
   have RN := hid (rnew_out w3 _ _ ⟨a, cs.length, c, rfl⟩ ⟨a', rs.length, c', rfl⟩ pn HPN.out)
   clear NB ht3 hb3 r3 R2
   go_wp2_with fail
   refine RN.out.mono ?_
   rintro e w4 ⟨rfl, hb4⟩
   have r4 := blk_seen hb4 (Nat.le_refl _) R3.out
   have B4 := hid (B3.out.trans (hb4.mono B3.out.size))
   have T4 := hid (T3.out.later hb4)
   have y0 : w4.cell? ⟨W.heap.size, 0, none⟩ = some (.slice a cs.length c) := cell_blk r4 rfl
   have y1 : w4.cell? ⟨W.heap.size, 1, none⟩ = some (.slice a' rs.length c') := cell_blk r4 rfl
   have RC := hid (rcheck_any w4 _ _ cs rs (HC.out.later B4.out) (HQ.out.later B4.out) HG.out.1 HG.out.2.1)
   rw [HCK.out] at RC
   clear RN hb4 r4 T3 R3
   go_wp2_with fail
   refine RC.out.mono ?_
   rintro e w5 ⟨lv, rfl, ho, hb5⟩
   obtain ⟨la, lc, rfl⟩ := own_slice ho
   have B5 := hid (B4.out.trans (hb5.mono B4.out.size))
   have E5 := HE.out.later B5.out
   have c1 := So.e1 E5.eight
   have IS := hid (is_er E5.eight (T4.out.later hb5) (k := 1) (by decide))
   clear RC ho hb5 T4 y0 y1 E5
   go_wp2_with fail
   refine IS.out.mono ?_
   rintro e w6 ⟨rfl, hb6⟩
   have B6 := hid (B5.out.trans (hb6.mono B5.out.size))
   clear IS hb6
   go_wp2_with fail
   go_ret
   exact ⟨rfl, B6.out⟩
  ·obtain ⟨n, rfl⟩ : ∃ n : Nat, pn = (n : Int) := ⟨pn.toNat, by omega⟩
   have hn : n ≤ 64 := by omega
   clear hpn
   obtain ⟨ws, hws, hok⟩ := chk_ws hck
   have NW := hid (So.new_ok Ad w2 _ _ cs rs E2.out.eight (HC.out.later B2.out) (HQ.out.later B2.out) HG.out.1 HG.out.2.1 hck ws hws hok n hn)
   have HCK := hid hck
   have HWS := hid hws
   have HOKW := hid hok
   have HN := hid hn
   clear hck hws hok hn
   go_wp2_with fail
   refine NW.out.mono ?_
   rintro e w3 ⟨sb, rfl, cv, hs3, ht3, hb3⟩
   have r3 := blk_seen hb3 (Nat.le_refl _) R2.out
   have b03 := B2.out.trans (hb3.mono B2.out.size)
   have y0 : w3.cell? ⟨W.heap.size, 0, none⟩ = some (.slice a cs.length c) := cell_blk r3 rfl
   have y1 : w3.cell? ⟨W.heap.size, 1, none⟩ = some (.slice a' rs.length c') := cell_blk r3 rfl
   have RN := hid (rnew_ok w3 _ _ cs rs (HC.out.later b03) (HQ.out.later b03) HG.out.1 HG.out.2.1 HCK.out n HN.out hb3.size (wd_low (HC.out.later B2.out) HWS.out hb3) HOKW.out)
   have S3 := hid hs3
   have C3 := hid ht3
   have B3 := hid hb3
   clear NW hs3 ht3 hb3 r3 b03 R2
   go_wp2_with fail
   refine RN.out.mono ?_
   rintro e w4 ⟨ub, xv, rfl, hd4, hn4, hb4⟩
   have X5 := hid (ex_made S3.out C3.out B3.out hd4 hn4 hb4)
   have SM5 := hid (sm_made ws n)
   obtain ⟨s0, hs0⟩ : ∃ s0, s0 = madeS ws n := ⟨_, rfl⟩
   rw [← hs0] at X5 SM5
   obtain ⟨w5, hw5⟩ : ∃ w5, w5 = w4.alloc (.cells #[] 43) := ⟨_, rfl⟩
   rw [← hw5] at X5
   have HW5 := hid hw5
   obtain ⟨gb0, hgb0⟩ : ∃ gb0, gb0 = w4.heap.size := ⟨_, rfl⟩
   rw [← hgb0] at X5
   have HGB := hid hgb0
   have HAW := hid (HA.out.later B2.out)
   have BW := hid B2.out
   clear RN hd4 hn4 hb4 hs0 hw5 hgb0 y0 y1 S3 C3 B3 E2
   go_upto_region 13 with fail
   rw [← HW5.out, ← HGB.out]
   clear HW5 HGB
   go_wp2_with fail
   refine wp_loop_ghost_k (WI w2 sb ub ca cc xs) 150 (WI.mk (q := 0) (gl := []) rfl ⟨by omega, rfl, X5.out, SM5.out, by simp, by simp⟩) fun nn aa ww hww J K hJ hK => round_all w2 Ad sb ub ca cc xs HAW.out (HE.out.later B2.out) HG.out.2.2 nn aa ww hww J K _ hJ hK ?_
   clear hww hJ hK X5 SM5
   intro ao wo hwx
   obtain ⟨kk, u, q, ga, gc, gl, s, hrd, rfl⟩ := hwx
   unfold F3
   have HX := hid hrd.rx
   have HSM := hid (hrd.rs.mono hrd.rq)
   clear hrd
   obtain ⟨rb, R1, R2, -⟩ := HX.out.roll
   have SML := hid HX.out.small
   have ALS := hid (all_small SML.out.1 fun g hg => by have := HSM.out.gens g hg; omega)
   have ALL := hid (all_len SML.out.1)
   have ALV : Hid (∀ p ∈ s.r.all, al s p.1 p.2 ∧ p.1 < 64) := fun p hp => ⟨(So.all_iff s p).1 hp, by have := (Ro.RS.upto_mem hp).1; have := SML.out.1; omega⟩
   have LI := hid (R2 wo (Below.refl _ _))
   have cr := R1 wo (Below.refl _ _)
   clear R1 R2
   go_wp2_with fail
   refine LI.out.mono ?_
   rintro e w10 ⟨lv, rfl, hl10, hb10⟩
   obtain ⟨la, lc, rfl⟩ := Ro.Ents.slice hl10
   have X10 := hid (HX.out.later hb10)
   have L10 := hid hl10
   obtain ⟨AL, hAL⟩ : ∃ AL, AL = s.r.all := ⟨_, rfl⟩
   rw [← hAL] at L10 ALS ALL ALV
   have HAL := hid hAL
   have hl64 : (AL.length : Int) ≤ 64 := by have := ALL.out; omega
   clear LI hl10 hb10 cr HX hAL
   go_wp2_with fail
   rw [← HAL.out]
   go_loopw [32, 33, 34, 35, 36] (fun iv _ _ _ _ wr => ∃ k : Nat, k ≤ AL.length ∧ iv = .int .i64 (k : Int) ∧ Hid (Below w10.heap.size w10 wr)) (fun iv _ _ _ _ _ => AL.length - (intOf iv).toNat)
   case atStart => exact ⟨0, Nat.zero_le _, rfl, Below.refl _ _⟩
   case round =>
    obtain ⟨k, hk, rfl, HB⟩ := hrel
    have HXR := hid (X10.out.later HB.out)
    by_cases hlt : k < AL.length
    ·have hki : (k : Int) < (AL.length : Int) := by omega
     obtain ⟨p, hp⟩ := at_lt AL k hlt
     obtain ⟨pal, p64⟩ := ALV.out p (List.mem_of_getElem? hp)
     have hpi : (p.1 : Int) < 64 := by omega
     obtain ⟨lb, rfl, -, -⟩ := L10.out.some (by omega)
     have LK : Hid (∀ W', Below w10.heap.size w10 W' → W'.cell? ⟨lb, k * 2, none⟩ = some (.int .i64 (p.1 : Int)) ∧ W'.cell? ⟨lb, k * 2 + 1, none⟩ = some (.int .i64 (p.2 : Int))) := fun W' hb => (Ro.Ents.later L10.out hb).cell hp
     obtain ⟨d0, d1⟩ := LK.out wr HB.out
     obtain ⟨pv, HPL, hokl, h16⟩ := HXR.out.place p64
     have hle := okL_few hokl h16
     have hoc := okL_okC hokl h16
     have HPV := hid HPL
     have PS := hid (HXR.out.parts pal)
     have PAL := hid pal
     obtain ⟨m, hm⟩ : ∃ m, m = mskP (s.at p.1) := ⟨_, rfl⟩
     have HM := hid hm
     have HOC := hid hoc
     have HLE : Hid ((s.at p.1).length ≤ 900) := by show _ ≤ _; omega
     clear hp pal HPL hokl hle hoc hm
     go_wp2_with fail
     refine PS.out.mono ?_
     rintro e w12 ⟨v, rfl, hrow, hb12⟩
     have B12 := hid (HB.out.trans (hb12.mono HB.out.size))
     have ROW := hid hrow
     have BR := hid hb12
     have MK := (HXR.out.later hb12).mask PAL.out
     rw [← HM.out] at MK
     have MKH := hid MK
     clear PS hrow hb12 MK d0 d1
     obtain ⟨d0, d1⟩ := LK.out w12 B12.out
     go_wp2_with fail
     refine MKH.out.mono ?_
     rintro e w13 ⟨rfl, hb13⟩
     have B13 := hid (B12.out.trans (hb13.mono B12.out.size))
     have BR13 := hid (BR.out.trans (hb13.mono BR.out.size))
     have ROW13 := hid (ROW.out.later hb13)
     clear MKH hb13 d0 d1 ROW
     have KS : Hid (∀ W', Below w13.heap.size w13 W' → W'.cell? ⟨lb, k * 2, none⟩ = some (.int .i64 (p.1 : Int)) ∧ W'.cell? ⟨ub, 3 + p.1, none⟩ = some pv) := fun W' hb => ⟨(LK.out W' (B13.out.trans (hb.mono B13.out.size))).1, (HPV.out W' (BR13.out.trans (hb.mono BR13.out.size))).1⟩
     have C1 : Hid (∀ W', Below w13.heap.size w13 W' → Calls Tryz.prog 20 #[v, pv] W' fun e w' => e = .returned (.bool true) ∧ Below w13.heap.size w13 w') := fun W' hb => (same_any W' v pv (s.at p.1) (ROW13.out.later hb) (HPV.out W' (BR13.out.trans (hb.mono BR13.out.size))).2 HLE.out).mono fun _ _ ⟨q1, q2⟩ => ⟨q1, hb.trans (q2.mono hb.size)⟩
     have C2 : Hid (∀ W', Below w13.heap.size w13 W' → Calls Tryz.prog 44 #[pv] W' fun e w' => e = .returned (.int .u32 (m : Int)) ∧ Below w13.heap.size w13 w') := fun W' hb => (mask_any W' pv (s.at p.1) (HPV.out W' (BR13.out.trans (hb.mono BR13.out.size))).2 HLE.out HOC.out).mono fun _ _ ⟨q1, q2⟩ => ⟨by rw [q1, HM.out], by rw [q2]; exact hb⟩
     have hMM : ((m : Int) != (m : Int)) = false := by simp
     go_upto_region 68 with fail
     go_region_held3 (fun W' => W'.cell? ⟨lb, k * 2, none⟩ = some (.int .i64 (p.1 : Int)) ∧ W'.cell? ⟨ub, 3 + p.1, none⟩ = some pv)
      (first | exact KS.out _ (by assumption) | exact KS.out _ (Below.refl _ _).drew | exact KS.out _ (Below.refl _ _))
      (first
       | (go_at_call 20; refine (C1.out _ (by first | assumption | exact (Below.refl _ _).drew | exact Below.refl _ _)).mono ?_; rintro e w14 ⟨rfl, hb14⟩)
       | (go_at_call 44; refine (C2.out _ (by assumption)).mono ?_; rintro e w15 ⟨rfl, hb15⟩))
     have B15 := hid (B13.out.trans (hb15.mono B13.out.size))
     clear KS C1 C2 hMM
     go_wp2_with fail
     go_roundw
     case rel => exact ⟨k + 1, by omega, by go_num, B15.out⟩
     case measure => simp [intOf]; omega
    ·have hki : ¬ ((k : Int) < (AL.length : Int)) := by omega
     have MT := HXR.out.match 0 0 (by omega) (by omega)
     have EQ : So.matched s 0 0 = AL := by
      rw [HAL.out]
      unfold So.matched
      refine List.filter_eq_self.2 fun x _ => ?_
      simp [At.mtB, At.an]
     rw [EQ] at MT
     have M1 := hid MT.1
     have LR := hid (Ro.Ents.later L10.out HB.out)
     clear MT EQ
     go_wp2_with fail
     refine M1.out.mono ?_
     rintro e w12 ⟨v, rfl, hv, hb12⟩
     have SA := hid (Ro.same_any hv (Ro.Ents.later LR.out hb12) (by have := ALL.out; omega) ALS.out)
     have BF := hid (BW.out.trans (((X10.out.later HB.out).later hb12).bel.mono BW.out.size))
     clear M1 hv
     go_wp2_with fail
     refine SA.out.mono ?_
     rintro e w13 ⟨rfl, hb13⟩
     have BG := hid (BF.out.trans (hb13.mono BF.out.size))
     clear SA
     go_wp2_with fail
     go_ret
     exact ⟨rfl, BG.out⟩
 ·have NB := hid (So.new_bad Ad w2 _ _ cs rs E2.out.eight (HC.out.later B2.out) (HQ.out.later B2.out) HG.out.1 HG.out.2.1 hck pn)
  have OK := hid (checkL_ok cs rs HG.out.1.1 HG.out.2.1.1)
  have HCK := hid hck
  clear hck
  go_wp2_with fail
  refine NB.out.mono ?_
  rintro e w3 ⟨t2, q2, rfl, ht3, hb3⟩
  have r3 := blk_seen hb3 (Nat.le_refl _) R2.out
  have B3 := hid (B2.out.trans (hb3.mono B2.out.size))
  have R3 := hid r3
  have T3 := hid ht3
  have y0 : w3.cell? ⟨W.heap.size, 0, none⟩ = some (.slice a cs.length c) := cell_blk r3 rfl
  have y1 : w3.cell? ⟨W.heap.size, 1, none⟩ = some (.slice a' rs.length c') := cell_blk r3 rfl
  have RN : Hid (Calls Tryz.prog 11 #[.agg #[.slice a cs.length c, .slice a' rs.length c'], .int .i64 pn] w3 fun e w' => e = .returned (.pointer none) ∧ Below w3.heap.size w3 w') := by
   by_cases hpn : pn < 0 ∨ 64 < pn
   ·exact rnew_out w3 _ _ ⟨_, _, _, rfl⟩ ⟨_, _, _, rfl⟩ pn hpn
   ·obtain ⟨n, rfl⟩ : ∃ n : Nat, pn = (n : Int) := ⟨pn.toNat, by omega⟩
    exact rnew_no w3 _ _ cs rs (HC.out.later B3.out) (HQ.out.later B3.out) HG.out.1 HG.out.2.1 HCK.out n (by omega)
  clear NB ht3 hb3 r3 R2
  go_wp2_with fail
  refine RN.out.mono ?_
  rintro e w4 ⟨rfl, hb4⟩
  have r4 := blk_seen hb4 (Nat.le_refl _) R3.out
  have B4 := hid (B3.out.trans (hb4.mono B3.out.size))
  have T4 := hid (T3.out.later hb4)
  have y0 : w4.cell? ⟨W.heap.size, 0, none⟩ = some (.slice a cs.length c) := cell_blk r4 rfl
  have y1 : w4.cell? ⟨W.heap.size, 1, none⟩ = some (.slice a' rs.length c') := cell_blk r4 rfl
  have RC := hid (rcheck_any w4 _ _ cs rs (HC.out.later B4.out) (HQ.out.later B4.out) HG.out.1 HG.out.2.1)
  obtain ⟨LS, hLS⟩ : ∃ LS, LS = checkL cs rs := ⟨_, rfl⟩
  have hpos : 0 < LS.length := by rw [hLS]; exact List.length_pos_iff.2 HCK.out
  rw [← hLS] at RC T4 OK
  clear RN hb4 r4 T3 R3 hLS
  go_wp2_with fail
  refine RC.out.mono ?_
  rintro e w5 ⟨lv, rfl, ho, hb5⟩
  obtain ⟨la, lc, rfl⟩ := own_slice ho
  have B5 := hid (B4.out.trans (hb5.mono B4.out.size))
  have LV := hid (leaves_any Ad _ LS 3 w5 (HE.out.later B5.out) (T4.out.later hb5).tr (by omega) OK.out.1 (by have := OK.out.2; omega))
  have hpi : (0 : Int) < (LS.length : Int) := by omega
  have hpe : ((LS.length : Int) == 0) = false := by rw [beq_eq_false_iff_ne]; omega
  have hpp : ¬ ((LS.length : Int) = 0) := by omega
  have hll : (LS.length : Int) ≤ 200 := by have := OK.out.2; omega
  clear RC ho hb5 T4 y0 y1
  go_wp2_with fail
  refine LV.out.mono ?_
  rintro e w6 ⟨lv2, rfl, ho2, hb6⟩
  obtain ⟨la2, lc2, rfl⟩ := own_slice ho2
  have B6 := hid (B5.out.trans (hb6.mono B5.out.size))
  clear LV ho2 hb6
  go_wp2_with fail
  go_ret
  exact ⟨rfl, B6.out⟩
end Rs
end Go.Proofs.YtnlcbheidiigaaaGreatDoor
