/- A part of StoreExact. -/
import Derived.Test.YtnlcbheidiigaaaGreatDoorRsIc
import Derived.Test.YtnlcbheidiigaaaGreatDoorRsIb1a
import Derived.Test.YtnlcbheidiigaaaGreatDoorRsIb1b
import Derived.Test.YtnlcbheidiigaaaGreatDoorRsIb2
import Derived.Test.YtnlcbheidiigaaaGreatDoorRsIb3
import Derived.Test.YtnlcbheidiigaaaGreatDoorRsIb4
import Derived.Test.YtnlcbheidiigaaaGreatDoorRsIb5
import Derived.Test.YtnlcbheidiigaaaGreatDoorRsIb6
import Derived.Test.YtnlcbheidiigaaaGreatDoorRsIb7
import Derived.Test.YtnlcbheidiigaaaGreatDoorRsIb8
namespace Go.Proofs.YtnlcbheidiigaaaGreatDoor
namespace Rs
open Go.RowKit Go.Shelf Go.Maps
open At (cell_blk)
theorem arm_all (w2 : World) (Ad : Nat → Addr) (sb ub : Nat) (ca : Option Addr) (cc : Nat) (xs : List AX) (ga : Option Addr) (gc : Nat) (gl : List (Nat × Nat)) (q bx nb : Nat) (x : AX) (la : Option Addr) (lc : Nat) (i g : Int) (s : SD) (w8 : World) (u : Nat → Value) (h0 : R0 w2 Ad sb ub ga gc gl q bx nb x la lc i g s w8) (hu : u 111 = .int .i64 x.kd) (K0 : Act → World → Prop) (Q : Exit → Act → World → Prop) (hK0 : ∀ a' w', P2 w2 Ad sb ub ca cc xs q bx nb x la lc i g a' w' → K0 a' w') : Code.wp Tryz.prog sw1 (Exit.then K0 Q) (F0 ca cc xs sb ub ga gc gl q bx nb .nilIface 0 u) w8 := by
 by_cases k1 : x.kd = 1
 ·by_cases hK : (s.spawn x.l).1.2.2 = 0
  ·exact arm_1a w2 Ad sb ub ca cc xs ga gc gl q bx nb x la lc i g s w8 u h0 k1 hK hu K0 Q hK0
  ·exact arm_1b w2 Ad sb ub ca cc xs ga gc gl q bx nb x la lc i g s w8 u h0 k1 hK hu K0 Q hK0
 by_cases k2 : x.kd = 2
 ·exact arm_2 w2 Ad sb ub ca cc xs ga gc gl q bx nb x la lc i g s w8 u h0 k2 hu K0 Q hK0
 by_cases k3 : x.kd = 3
 ·exact arm_3 w2 Ad sb ub ca cc xs ga gc gl q bx nb x la lc i g s w8 u h0 k3 hu K0 Q hK0
 by_cases k4 : x.kd = 4
 ·exact arm_4 w2 Ad sb ub ca cc xs ga gc gl q bx nb x la lc i g s w8 u h0 k4 hu K0 Q hK0
 by_cases k5 : x.kd = 5
 ·exact arm_5 w2 Ad sb ub ca cc xs ga gc gl q bx nb x la lc i g s w8 u h0 k5 hu K0 Q hK0
 by_cases k6 : x.kd = 6
 ·exact arm_6 w2 Ad sb ub ca cc xs ga gc gl q bx nb x la lc i g s w8 u h0 k6 hu K0 Q hK0
 by_cases k7 : x.kd = 7
 ·exact arm_7 w2 Ad sb ub ca cc xs ga gc gl q bx nb x la lc i g s w8 u h0 k7 hu K0 Q hK0
 exact arm_8 w2 Ad sb ub ca cc xs ga gc gl q bx nb x la lc i g s w8 u h0 (fun j j1 j2 => by rcases (show j = 1 ∨ j = 2 ∨ j = 3 ∨ j = 4 ∨ j = 5 ∨ j = 6 ∨ j = 7 by omega) with rfl | rfl | rfl | rfl | rfl | rfl | rfl <;> assumption) hu K0 Q hK0
set_option maxHeartbeats 51200000 in
set_option maxRecDepth 1000000 in
theorem round_in (w2 : World) (Ad : Nat → Addr) (sb ub : Nat) (b o cc : Nat) (xs : List AX) (hA0 : AR w2 (.slice (some ⟨b, o, none⟩) xs.length cc) xs) (hE2 : Env w2 Ad) (hG0 : ∀ (i : Nat) x, i < 150 → xs[i]? = some x → x.l.length ≤ 30) (u : Nat → Value) (q : Nat) (ga : Option Addr) (gc : Nat) (gl : List (Nat × Nat)) (s : SD) (wr : World) {gh : Nat} (hR : Rd w2 sb ub gh q ga gc gl s wr) (h1 : q < xs.length) (h2 : q < 150) (x : AX) (hx : xs[q]? = some x) (J : Nat → Act → World → Prop) (K0 : Act → World → Prop) (Q : Exit → Act → World → Prop) (hJ : ∀ k a' w', WI w2 sb ub (some ⟨b, o, none⟩) cc xs k a' w' → J k a' w') (hK0 : ∀ a' w', Go.Handed J gh a' w' → K0 a' w') : Code.wp Tryz.prog body1 (Exit.then K0 Q) (F3 (some ⟨b, o, none⟩) cc xs sb ub ga gc gl q u) wr := by
 unfold F3
 conv => arg 2; whnf
 have HX := hid hR.rx
 have HSM := hid hR.rs
 have HGL := hid hR.rl
 have hq := hR.rq
 have E2 := hid hE2
 have h1i : (q : Int) < (xs.length : Int) := by omega
 have h2i : (q : Int) < 150 := by omega
 have OK : Hid (x.Ok w2) := by
  obtain ⟨_, _, _, h, _⟩ := hA0
  exact h x (List.mem_of_getElem? hx)
 have HL : Hid (x.l.length ≤ 30) := hG0 q x h2 hx
 obtain ⟨la, lc, hlv⟩ : ∃ la lc, x.lv = .slice la x.l.length lc := by
  obtain ⟨la, lc, e, -⟩ := OK.out.l
  exact ⟨la, lc, e⟩
 have LR := hid OK.out.l
 rw [hlv] at LR
 have hcell : ∀ i v, x.arr[i]? = some v → wr.cell? ⟨b, o + q * 16 + i, none⟩ = some v := by
  obtain ⟨a'', c'', hv, -, h⟩ := hA0.later HX.out.bel
  rcases h with h | ⟨b', o', h4, h5⟩
  ·rw [h] at h1; simp at h1
  ·have e : (some ⟨b, o, none⟩ : Option Addr) = some ⟨b', o', none⟩ := by rw [← h4]; simpa using (Value.slice.inj hv).1
   obtain ⟨rfl, rfl⟩ : b = b' ∧ o = o' := by simpa using e
   exact h5 q x hx
 have HRQ := hid hR
 have hgh := hR.rg
 subst hgh
 clear hR hA0 hE2 hG0
 have c0 : wr.cell? ⟨b, o + q * 16, none⟩ = some (.int .i64 x.kd) := hcell 0 _ rfl
 have c1 : wr.cell? ⟨b, o + q * 16 + 1, none⟩ = some (.int .i64 x.n) := hcell 1 _ rfl
 have c2 : wr.cell? ⟨b, o + q * 16 + 2, none⟩ = some (.int .i64 x.ei) := hcell 2 _ rfl
 have c3 : wr.cell? ⟨b, o + q * 16 + 3, none⟩ = some (.int .i64 x.eg) := hcell 3 _ rfl
 have c4 : wr.cell? ⟨b, o + q * 16 + 4, none⟩ = some (.slice la x.l.length lc) := by rw [← hlv]; exact hcell 4 _ rfl
 have c5 : wr.cell? ⟨b, o + q * 16 + 5, none⟩ = some (.int .i64 x.p.c) := hcell 5 _ rfl
 have c6 : wr.cell? ⟨b, o + q * 16 + 6, none⟩ = some (.int .i64 x.p.v0) := hcell 6 _ rfl
 have c7 : wr.cell? ⟨b, o + q * 16 + 7, none⟩ = some (.int .i64 x.p.v1) := hcell 7 _ rfl
 have c8 : wr.cell? ⟨b, o + q * 16 + 8, none⟩ = some (.int .i64 x.p.v2) := hcell 8 _ rfl
 have c9 : wr.cell? ⟨b, o + q * 16 + 9, none⟩ = some (.int .i64 x.p.v3) := hcell 9 _ rfl
 have c10 : wr.cell? ⟨b, o + q * 16 + 10, none⟩ = some (.int .i64 x.p.t) := hcell 10 _ rfl
 have c11 : wr.cell? ⟨b, o + q * 16 + 11, none⟩ = some (.int .i64 x.comp) := hcell 11 _ rfl
 have c12 : wr.cell? ⟨b, o + q * 16 + 12, none⟩ = some (.int .i64 x.cell) := hcell 12 _ rfl
 have c13 : wr.cell? ⟨b, o + q * 16 + 13, none⟩ = some (.int .i64 x.value) := hcell 13 _ rfl
 have c14 : wr.cell? ⟨b, o + q * 16 + 14, none⟩ = some (.int .u32 (x.m : Int)) := hcell 14 _ rfl
 have c15 : wr.cell? ⟨b, o + q * 16 + 15, none⟩ = some (.int .u32 (x.w : Int)) := hcell 15 _ rfl
 obtain ⟨bx, hbx⟩ : ∃ bx, bx = wr.heap.size := ⟨_, rfl⟩
 obtain ⟨w4, hw4⟩ : ∃ w4, w4 = wr.alloc (.cells #[.int .i64 x.kd, .int .i64 x.n, .int .i64 x.ei, .int .i64 x.eg, .slice la x.l.length lc, .int .i64 x.p.c, .int .i64 x.p.v0, .int .i64 x.p.v1, .int .i64 x.p.v2, .int .i64 x.p.v3, .int .i64 x.p.t, .int .i64 x.comp, .int .i64 x.cell, .int .i64 x.value, .int .u32 (x.m : Int), .int .u32 (x.w : Int)] 51) := ⟨_, rfl⟩
 have X4 : Hid (Ex w2 sb ub s s q (.slice ga gl.length gc) gl [(bx, bX x la lc)] w4) := by
  rw [hw4, hbx]
  exact HX.out.alloc _ _
 have z4 : w4.heap.size = bx + 1 := by rw [hw4, hbx]; simp
 have A4 := X4.out.at (List.mem_cons_self ..)
 have HW4 := hid hw4
 have HBX := hid hbx
 have Z4 := hid z4
 have y0 : w4.cell? ⟨bx, 0, none⟩ = some (.int .i64 x.kd) := cell_blk A4 rfl
 have y1 : w4.cell? ⟨bx, 1, none⟩ = some (.int .i64 x.n) := cell_blk A4 rfl
 have y2 : w4.cell? ⟨bx, 2, none⟩ = some (.int .i64 x.ei) := cell_blk A4 rfl
 have y3 : w4.cell? ⟨bx, 3, none⟩ = some (.int .i64 x.eg) := cell_blk A4 rfl
 have y4 : w4.cell? ⟨bx, 4, none⟩ = some (.slice la x.l.length lc) := cell_blk A4 rfl
 have y5 : w4.cell? ⟨bx, 5, none⟩ = some (.int .i64 x.p.c) := cell_blk A4 rfl
 have y6 : w4.cell? ⟨bx, 6, none⟩ = some (.int .i64 x.p.v0) := cell_blk A4 rfl
 have y7 : w4.cell? ⟨bx, 7, none⟩ = some (.int .i64 x.p.v1) := cell_blk A4 rfl
 have y8 : w4.cell? ⟨bx, 8, none⟩ = some (.int .i64 x.p.v2) := cell_blk A4 rfl
 have y9 : w4.cell? ⟨bx, 9, none⟩ = some (.int .i64 x.p.v3) := cell_blk A4 rfl
 have y10 : w4.cell? ⟨bx, 10, none⟩ = some (.int .i64 x.p.t) := cell_blk A4 rfl
 have y11 : w4.cell? ⟨bx, 11, none⟩ = some (.int .i64 x.comp) := cell_blk A4 rfl
 have y12 : w4.cell? ⟨bx, 12, none⟩ = some (.int .i64 x.cell) := cell_blk A4 rfl
 have y13 : w4.cell? ⟨bx, 13, none⟩ = some (.int .i64 x.value) := cell_blk A4 rfl
 have y14 : w4.cell? ⟨bx, 14, none⟩ = some (.int .u32 (x.m : Int)) := cell_blk A4 rfl
 have y15 : w4.cell? ⟨bx, 15, none⟩ = some (.int .u32 (x.w : Int)) := cell_blk A4 rfl
 have giv4 : Ro.Ents w2.heap.size w4 (.slice ga gl.length gc) gl := by obtain ⟨_, _, h⟩ := X4.out; exact h.giv
 have WHO := who_any w4 x.kd x.n x.ei x.eg la x.l.length lc x.p x.comp x.cell x.value x.m x.w ga gc gl giv4 (by have := HGL.out.2; omega)
 obtain ⟨i, g, hwho⟩ : ∃ i g, whoL x.n x.ei x.eg gl = (i, g) := ⟨_, _, rfl⟩
 have HI := hid (who_ok (n := x.n) OK.out.e.1 OK.out.e.2 HGL.out.1)
 rw [hwho] at WHO HI
 have WH := hid WHO
 clear hx hw4 hbx z4 HX A4 hlv hcell giv4 WHO hwho HRQ
 go_upto_region 17 with fail
 rw [← HW4.out, ← HBX.out]
 clear HW4 HBX c0 c1 c2 c3 c4 c5 c6 c7 c8 c9 c10 c11 c12 c13 c14 c15
 go_wp2_with fail
 refine WH.out.mono ?_
 rintro e w5 ⟨rfl, hb5⟩
 obtain ⟨nb, hnb⟩ : ∃ nb, nb = w5.heap.size := ⟨_, rfl⟩
 have hbn : bx < nb := by have := Z4.out; have := hb5.size; omega
 obtain ⟨w6, hw6⟩ : ∃ w6, w6 = w5.alloc (.cells #[.int .i64 i, .int .i64 g] 43) := ⟨_, rfl⟩
 obtain ⟨w7, hw7⟩ : ∃ w7, w7 = w6.alloc (.cells #[.int .i64 0, .int .i64 0, .int .i64 0, .int .i64 0, .int .i64 0, .int .i64 0] 47) := ⟨_, rfl⟩
 obtain ⟨w8, hw8⟩ : ∃ w8, w8 = w7.alloc (.cells #[.int .i64 0, .int .i64 0, .int .i64 0, .int .i64 0, .int .i64 0, .int .i64 0] 47) := ⟨_, rfl⟩
 have z6 : w6.heap.size = nb + 1 := by rw [hw6, hnb]; simp
 have z7 : w7.heap.size = nb + 2 := by rw [hw7, World.size_alloc, z6]
 have X8 : Hid (Ex w2 sb ub s s q (.slice ga gl.length gc) gl (rnd bx nb x la lc i g Prt.zero Prt.zero) w8) := by
  have e6 := (X4.out.later hb5).alloc #[.int .i64 i, .int .i64 g] 43
  rw [← hw6, ← hnb] at e6
  have e7 := e6.alloc Prt.zero.arr 47
  rw [z6] at e7
  unfold Prt.arr Prt.zero at e7
  rw [← hw7] at e7
  have e8 := e7.alloc Prt.zero.arr 47
  rw [z7] at e8
  unfold Prt.arr Prt.zero at e8
  rw [← hw8] at e8
  exact e8
 have HW6 := hid hw6
 have HW7 := hid hw7
 have HW8 := hid hw8
 have HNB := hid hnb
 clear WH hb5 hw6 hw7 hw8 hnb z6 z7 X4 Z4 y0 y1 y2 y3 y4 y5 y6 y7 y8 y9 y10 y11 y12 y13 y14 y15
 have XB := hid (rd_x X8.out)
 have XN := hid (rd_n X8.out)
 have XA := hid (rd_a X8.out)
 have XC := hid (rd_b X8.out)
 have y0 : w8.cell? ⟨bx, 0, none⟩ = some (.int .i64 x.kd) := cell_blk XB.out rfl
 go_upto_region 22 with fail
 rw [← HW6.out, ← HW7.out, ← HW8.out, ← HNB.out]
 clear HW6 HW7 HW8 HNB
 have h0 : R0 w2 Ad sb ub ga gc gl q bx nb x la lc i g s w8 := ⟨h2, X8.out, HSM.out, HGL.out, hbn, HI.out, OK.out, HL.out, LR.out, E2.out⟩
 have H0 := hid h0
 have HJ := hid hJ
 clear h0 hJ X8 XB XN XA XC LR HL HSM HGL
 go_upto_block 2 with fail
 rw [f0_mk (q := q) (bx := bx) (nb := nb) (fv := .nilIface) (K := 0)]
 refine arm_all w2 Ad sb ub (some ⟨b, o, none⟩) cc xs ga gc gl q bx nb x la lc i g s w8 _ H0.out (by rfl) _ _ ?_
 intro a' w' h2'
 obtain ⟨ga', gc', gl', fv', K', s', pa', u', rfl, hr2⟩ := h2'
 have HR2 := hid hr2
 clear hr2
 go_step
 refine rest_round w2 Ad sb ub (some ⟨b, o, none⟩) cc xs ga' gc' gl' q bx nb x la lc i g fv' K' s' pa' w' u' HR2.out E2.out HI.out OK.out _ _ ?_
 clear HR2
 intro a3 w3 h3'
 obtain ⟨ga3, gc3, gl3, s3, u3, rfl, hr3⟩ := h3'
 have HR3 := hid hr3
 clear hr3
 unfold F3
 go_wp2_with fail
 exact Go.Handed.intro (150 - (q + 1)) (by omega) (HJ.out _ _ _ (WI.mk (q := q + 1) (by omega) ⟨by omega, rfl, HR3.out.rx, HR3.out.rs, HR3.out.rl⟩))
end Rs
end Go.Proofs.YtnlcbheidiigaaaGreatDoor
