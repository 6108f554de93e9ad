/- A part of StoreExact. -/
import Derived.Test.YtnlcbheidiigaaaGreatDoorRsIa
namespace Go.Proofs.YtnlcbheidiigaaaGreatDoor
namespace Rs
open Go.RowKit Go.Shelf Go.Maps
open At (cell_blk)
set_option maxHeartbeats 51200000 in
set_option maxRecDepth 1000000 in
theorem arm_3 (w2 : World) (Ad : Nat → Addr) (sb ub : Nat) (ca : Option Addr) (cc : Nat) (xs : List AX) (ga : Option Addr) (gc : Nat) (gl : List (Nat × Nat)) (q bx nb : Nat) (x : AX) (la : Option Addr) (lc : Nat) (i g : Int) (s : SD) (w8 : World) (u : Nat → Value) (h0 : R0 w2 Ad sb ub ga gc gl q bx nb x la lc i g s w8) (hk : x.kd = 3)  (hu : u 111 = .int .i64 x.kd) (K0 : Act → World → Prop) (Q : Exit → Act → World → Prop) (hK0 : ∀ a' w', P2 w2 Ad sb ub ca cc xs q bx nb x la lc i g a' w' → K0 a' w') : Code.wp Tryz.prog sw1 (Exit.then K0 Q) (F0 ca cc xs sb ub ga gc gl q bx nb .nilIface 0 u) w8 := by
 unfold F0
 conv => arg 2; whnf
 rw [hu]
 clear hu
 have X8 := hid h0.rx
 have HSM := hid h0.rs
 have HGL := hid h0.rl
 have hq := Nat.le_of_lt h0.rq
 have h2 := h0.rq
 have h2i : (q : Int) < 150 := by omega
 have E2 := hid h0.re
 have OK := hid h0.ro
 have HL := hid h0.rn
 have LR := hid h0.rr
 have HI := hid h0.ri
 have hbn := h0.rb
 have XB := hid (rd_x X8.out)
 have XN := hid (rd_n X8.out)
 have y0 : w8.cell? ⟨bx, 0, none⟩ = some (.int .i64 x.kd) := cell_blk XB.out rfl
 have HK0 := hid hK0
 clear h0 hK0
 have q1 : (x.kd == 1) = false := by simp [hk]
 have q2 : (x.kd == 2) = false := by simp [hk]
 have q3 : (x.kd == 3) = true := by simp [hk]
 clear hk
 obtain ⟨K, s', hsp⟩ : ∃ K s', s.ins i g x.p = (K, s') := ⟨_, _, rfl⟩
 have smn := HSM.out.ins i g x.p
 have ps := p_insert X8.out E2.out.eight i g HI.out.1 HI.out.2 x.p OK.out.p
 rw [hsp] at smn ps
 dsimp only at smn ps
 have SMN := hid smn
 have PS := hid ps
 have HSP := hid hsp
 have n0 : w8.cell? ⟨nb, 0, none⟩ = some (.int .i64 i) := cell_blk XN.out rfl
 have n1 : w8.cell? ⟨nb, 1, none⟩ = some (.int .i64 g) := cell_blk XN.out rfl
 have y5 : w8.cell? ⟨bx, 5, none⟩ = some (.int .i64 x.p.c) := cell_blk XB.out rfl
 have y6 : w8.cell? ⟨bx, 6, none⟩ = some (.int .i64 x.p.v0) := cell_blk XB.out rfl
 have y7 : w8.cell? ⟨bx, 7, none⟩ = some (.int .i64 x.p.v1) := cell_blk XB.out rfl
 have y8 : w8.cell? ⟨bx, 8, none⟩ = some (.int .i64 x.p.v2) := cell_blk XB.out rfl
 have y9 : w8.cell? ⟨bx, 9, none⟩ = some (.int .i64 x.p.v3) := cell_blk XB.out rfl
 have y10 : w8.cell? ⟨bx, 10, none⟩ = some (.int .i64 x.p.t) := cell_blk XB.out rfl
 clear ps smn hsp
 go_wp2_with fail
 refine PS.out.mono ?_
 rintro e w9 ⟨ev, rfl, hen9, hx9⟩
 clear n0 n1 y5 y6 y7 y8 y9 y10
 have XB9 := rd_x hx9
 have XN9 := rd_n hx9
 have n0 : w9.cell? ⟨nb, 0, none⟩ = some (.int .i64 i) := cell_blk XN9 rfl
 have n1 : w9.cell? ⟨nb, 1, none⟩ = some (.int .i64 g) := cell_blk XN9 rfl
 have y5 : w9.cell? ⟨bx, 5, none⟩ = some (.int .i64 x.p.c) := cell_blk XB9 rfl
 have y6 : w9.cell? ⟨bx, 6, none⟩ = some (.int .i64 x.p.v0) := cell_blk XB9 rfl
 have y7 : w9.cell? ⟨bx, 7, none⟩ = some (.int .i64 x.p.v1) := cell_blk XB9 rfl
 have y8 : w9.cell? ⟨bx, 8, none⟩ = some (.int .i64 x.p.v2) := cell_blk XB9 rfl
 have y9 : w9.cell? ⟨bx, 9, none⟩ = some (.int .i64 x.p.v3) := cell_blk XB9 rfl
 have y10 : w9.cell? ⟨bx, 10, none⟩ = some (.int .i64 x.p.t) := cell_blk XB9 rfl
 have ds := d_insert hx9 (by have := HSM.out.sets; omega) i g x.p
 rw [HSP.out] at ds
 dsimp only at ds
 have DS := hid ds
 have EN9 := hid hen9
 clear PS hx9 hen9 ds XB9 XN9
 go_wp2_with fail
 refine DS.out.mono ?_
 rintro e w10 ⟨rfl, hx10, hb10⟩
 have X10 := hid (hx10.older (t2 := q + 1) (by omega))
 have EN10 := hid (EN9.out.over hb10)
 have HGL2 : Hid ((∀ p ∈ gl, p.1 ≤ 1000 ∧ p.2 ≤ 1000) ∧ gl.length ≤ q + 1) := ⟨HGL.out.1, by have := HGL.out.2; omega⟩
 clear DS hx10 hb10 n0 n1 y5 y6 y7 y8 y9 y10
 go_wp2_with fail
 exact HK0.out _ _ ⟨_, _, _, _, _, _, _, _, f0_mk, ⟨EN10.out, X10.out, SMN.out, HGL2.out⟩⟩
end Rs
end Go.Proofs.YtnlcbheidiigaaaGreatDoor
