/- A part of StoreExact. -/
import Derived.Test.YtnlcbheidiigaaaGreatDoorRsIa
namespace Go.Proofs.YtnlcbheidiigaaaGreatDoor
namespace Rs
open Go.RowKit Go.Shelf Go.Maps
open At (cell_blk blk_free)
set_option maxHeartbeats 51200000 in
set_option maxRecDepth 1000000 in
theorem arm_4 (w2 : World) (Ad : Nat → Addr) (sb ub : Nat) (ca : Option Addr) (cc : Nat) (xs : List AX) (ga : Option Addr) (gc : Nat) (gl : List (Nat × Nat)) (q bx nb : Nat) (x : AX) (la : Option Addr) (lc : Nat) (i g : Int) (s : SD) (w8 : World) (u : Nat → Value) (h0 : R0 w2 Ad sb ub ga gc gl q bx nb x la lc i g s w8) (hk : x.kd = 4)  (hu : u 111 = .int .i64 x.kd) (K0 : Act → World → Prop) (Q : Exit → Act → World → Prop) (hK0 : ∀ a' w', P2 w2 Ad sb ub ca cc xs q bx nb x la lc i g a' w' → K0 a' w') : Code.wp Tryz.prog sw1 (Exit.then K0 Q) (F0 ca cc xs sb ub ga gc gl q bx nb .nilIface 0 u) w8 := by
 unfold F0
 conv => arg 2; whnf
 rw [hu]
 clear hu
 have X8 := hid h0.rx
 have HSM := hid h0.rs
 have HGL := hid h0.rl
 have hq := Nat.le_of_lt h0.rq
 have h2 := h0.rq
 have h2i : (q : Int) < 150 := by omega
 have E2 := hid h0.re
 have OK := hid h0.ro
 have HL := hid h0.rn
 have LR := hid h0.rr
 have HI := hid h0.ri
 have hbn := h0.rb
 have XB := hid (rd_x X8.out)
 have XN := hid (rd_n X8.out)
 have y0 : w8.cell? ⟨bx, 0, none⟩ = some (.int .i64 x.kd) := cell_blk XB.out rfl
 have HK0 := hid hK0
 clear h0 hK0
 have q1 : (x.kd == 1) = false := by simp [hk]
 have q2 : (x.kd == 2) = false := by simp [hk]
 have q3 : (x.kd == 3) = false := by simp [hk]
 have q4 : (x.kd == 4) = true := by simp [hk]
 clear hk
 obtain ⟨pr, K, hsp⟩ : ∃ pr K, s.get i g x.comp = (pr, K) := ⟨_, _, rfl⟩
 obtain ⟨s', hrm⟩ : ∃ s', s.rem i g x.comp = s' := ⟨_, rfl⟩
 have smn := HSM.out.rem i g x.comp
 have ps := p_remove X8.out E2.out.eight i g x.comp HI.out.1 HI.out.2 OK.out.c
 rw [hsp, hrm] at ps
 rw [hrm] at smn
 dsimp only at smn ps
 unfold Prt.val at ps
 have SMN := hid smn
 have PS := hid ps
 have HSP := hid hsp
 have HRM := hid hrm
 have n0 : w8.cell? ⟨nb, 0, none⟩ = some (.int .i64 i) := cell_blk XN.out rfl
 have n1 : w8.cell? ⟨nb, 1, none⟩ = some (.int .i64 g) := cell_blk XN.out rfl
 have y11 : w8.cell? ⟨bx, 11, none⟩ = some (.int .i64 x.comp) := cell_blk XB.out rfl
 clear ps smn hsp hrm
 go_wp2_with fail
 refine PS.out.mono ?_
 rintro e w9 ⟨ev, rfl, hen9, hx9⟩
 obtain ⟨w10, hw10⟩ : ∃ w10, w10 = six w9 (nb + 1) pr := ⟨_, rfl⟩
 have x10 := set_a hx9 hbn pr
 have en10 := en_a hx9 hen9 pr
 rw [← hw10] at x10 en10
 have XA9 := rd_a hx9
 have z0 : w9.cell? ⟨nb + 1, 0, none⟩ = some (.int .i64 0) := cell_blk XA9 rfl
 have z1 : w9.cell? ⟨nb + 1, 1, none⟩ = some (.int .i64 0) := cell_blk XA9 rfl
 have z2 : w9.cell? ⟨nb + 1, 2, none⟩ = some (.int .i64 0) := cell_blk XA9 rfl
 have z3 : w9.cell? ⟨nb + 1, 3, none⟩ = some (.int .i64 0) := cell_blk XA9 rfl
 have z4 : w9.cell? ⟨nb + 1, 4, none⟩ = some (.int .i64 0) := cell_blk XA9 rfl
 have z5 : w9.cell? ⟨nb + 1, 5, none⟩ = some (.int .i64 0) := cell_blk XA9 rfl
 have fa := fun j => blk_free XA9 j
 have HW10 := hid hw10
 unfold six at HW10
 have X10 := hid x10
 have EN10 := hid en10
 clear hw10 x10 en10 hx9 hen9 PS n0 n1 y11
 have XB10 := hid (rd_x X10.out)
 have XN10 := hid (rd_n X10.out)
 have n0 : w10.cell? ⟨nb, 0, none⟩ = some (.int .i64 i) := cell_blk XN10.out rfl
 have n1 : w10.cell? ⟨nb, 1, none⟩ = some (.int .i64 g) := cell_blk XN10.out rfl
 have y11 : w10.cell? ⟨bx, 11, none⟩ = some (.int .i64 x.comp) := cell_blk XB10.out rfl
 have ds := d_remove X10.out (by have := HSM.out.sets; omega) i g x.comp
 rw [HSP.out, HRM.out] at ds
 dsimp only at ds
 unfold Prt.val at ds
 have DS := hid ds
 clear ds
 go_upto_region 46 with fail
 rw [← HW10.out]
 clear HW10 fa XA9 z0 z1 z2 z3 z4 z5
 go_wp2_with fail
 refine DS.out.mono ?_
 rintro e w11 ⟨rfl, hx11, hb11⟩
 obtain ⟨w12, hw12⟩ : ∃ w12, w12 = six w11 (nb + 2) pr := ⟨_, rfl⟩
 have x12 := (set_b hx11 hbn pr).older (t2 := q + 1) (by omega)
 have en12 := en_b hx11 (EN10.out.over hb11) pr
 rw [← hw12] at x12 en12
 have XC11 := rd_b hx11
 have z0 : w11.cell? ⟨nb + 2, 0, none⟩ = some (.int .i64 0) := cell_blk XC11 rfl
 have z1 : w11.cell? ⟨nb + 2, 1, none⟩ = some (.int .i64 0) := cell_blk XC11 rfl
 have z2 : w11.cell? ⟨nb + 2, 2, none⟩ = some (.int .i64 0) := cell_blk XC11 rfl
 have z3 : w11.cell? ⟨nb + 2, 3, none⟩ = some (.int .i64 0) := cell_blk XC11 rfl
 have z4 : w11.cell? ⟨nb + 2, 4, none⟩ = some (.int .i64 0) := cell_blk XC11 rfl
 have z5 : w11.cell? ⟨nb + 2, 5, none⟩ = some (.int .i64 0) := cell_blk XC11 rfl
 have fa := fun j => blk_free XC11 j
 have HW12 := hid hw12
 unfold six at HW12
 have X12 := hid x12
 have EN12 := hid en12
 have HGL2 : Hid ((∀ p ∈ gl, p.1 ≤ 1000 ∧ p.2 ≤ 1000) ∧ gl.length ≤ q + 1) := ⟨HGL.out.1, by have := HGL.out.2; omega⟩
 clear hw12 x12 en12 hx11 hb11 DS XB10 XN10 n0 n1 y11
 go_wp2_with fail
 rw [← HW12.out]
 exact HK0.out _ _ ⟨_, _, _, _, _, _, _, _, f0_mk, ⟨EN12.out, X12.out, SMN.out, HGL2.out⟩⟩
end Rs
end Go.Proofs.YtnlcbheidiigaaaGreatDoor
