/- A part of StoreExact. -/
import Derived.Test.YtnlcbheidiigaaaGreatDoorRsIa
namespace Go.Proofs.YtnlcbheidiigaaaGreatDoor
namespace Rs
open Go.RowKit Go.Shelf Go.Maps
open At (cell_blk)
open YtnlcbheidiigaaaGreatDoor.So (Er)
set_option maxHeartbeats 51200000 in
set_option maxRecDepth 1000000 in
theorem arm_7 (w2 : World) (Ad : Nat → Addr) (sb ub : Nat) (ca : Option Addr) (cc : Nat) (xs : List AX) (ga : Option Addr) (gc : Nat) (gl : List (Nat × Nat)) (q bx nb : Nat) (x : AX) (la : Option Addr) (lc : Nat) (i g : Int) (s : SD) (w8 : World) (u : Nat → Value) (h0 : R0 w2 Ad sb ub ga gc gl q bx nb x la lc i g s w8) (hk : x.kd = 7)  (hu : u 111 = .int .i64 x.kd) (K0 : Act → World → Prop) (Q : Exit → Act → World → Prop) (hK0 : ∀ a' w', P2 w2 Ad sb ub ca cc xs q bx nb x la lc i g a' w' → K0 a' w') : Code.wp Tryz.prog sw1 (Exit.then K0 Q) (F0 ca cc xs sb ub ga gc gl q bx nb .nilIface 0 u) w8 := by
 unfold F0
 conv => arg 2; whnf
 rw [hu]
 clear hu
 have X8 := hid h0.rx
 have HSM := hid h0.rs
 have HGL := hid h0.rl
 have hq := Nat.le_of_lt h0.rq
 have h2 := h0.rq
 have h2i : (q : Int) < 150 := by omega
 have E2 := hid h0.re
 have OK := hid h0.ro
 have HL := hid h0.rn
 have LR := hid h0.rr
 have HI := hid h0.ri
 have hbn := h0.rb
 have XB := hid (rd_x X8.out)
 have XN := hid (rd_n X8.out)
 have y0 : w8.cell? ⟨bx, 0, none⟩ = some (.int .i64 x.kd) := cell_blk XB.out rfl
 have HK0 := hid hK0
 clear h0 hK0
 have q1 : (x.kd == 1) = false := by simp [hk]
 have q2 : (x.kd == 2) = false := by simp [hk]
 have q3 : (x.kd == 3) = false := by simp [hk]
 have q4 : (x.kd == 4) = false := by simp [hk]
 have q5 : (x.kd == 5) = false := by simp [hk]
 have q6 : (x.kd == 6) = false := by simp [hk]
 have q7 : (x.kd == 7) = true := by simp [hk]
 clear hk
 have SML : Hid ((∀ p ∈ s.r.all, p.1 ≤ 1000 ∧ p.2 ≤ 1000) ∧ s.r.all.length ≤ 64) := by
  obtain ⟨_, _, h⟩ := X8.out
  exact ⟨all_small h.d.roll.small fun g hg => by have := HSM.out.gens g hg; omega, all_len h.d.roll.small⟩
 have C0 := ex_match X8.out SML.out.1 SML.out.2 x.m x.w OK.out.m.1 OK.out.m.2
 have C1 := hid C0.1
 have C2 := hid C0.2.1
 have C3 := hid C0.2.2
 have KZ : Hid (∀ W', Below w8.heap.size w8 W' → W'.cell? ⟨bx, 14, none⟩ = some (.int .u32 (x.m : Int)) ∧ W'.cell? ⟨bx, 15, none⟩ = some (.int .u32 (x.w : Int))) := fun W' hb => by
  have A := rd_x (X8.out.later hb)
  exact ⟨cell_blk A rfl, cell_blk A rfl⟩
 have HGL2 : Hid ((∀ p ∈ gl, p.1 ≤ 1000 ∧ p.2 ≤ 1000) ∧ gl.length ≤ q + 1) := ⟨HGL.out.1, by have := HGL.out.2; omega⟩
 clear C0
 go_upto_region 54 with fail
 go_region_held3 (fun W' => W'.cell? ⟨bx, 14, none⟩ = some (.int .u32 (x.m : Int)) ∧ W'.cell? ⟨bx, 15, none⟩ = some (.int .u32 (x.w : Int)))
  (first | exact KZ.out _ (by assumption) | exact KZ.out _ (Below.refl _ _).drew | exact KZ.out _ (Below.refl _ _))
  (first
   | (go_at_call 30; refine (C1.out _ (by first | assumption | exact (Below.refl _ _).drew | exact Below.refl _ _)).mono ?_; rintro e w9 ⟨v9, rfl, e9, hb9, t9⟩; first | (have e10' := t9.out _ e10) | skip)
   | (go_at_call 31; refine (C2.out _ (by first | assumption | exact (Below.refl _ _).drew | exact Below.refl _ _)).mono ?_; rintro e w10 ⟨v10, rfl, e10, hb10, t10⟩; first | (have e9' := t10.out _ e9) | skip)
   | (go_at_call 29; refine (C3.out _ _ _ (by assumption) (by assumption) (by assumption)).mono ?_; rintro e w11 ⟨rfl, hb11⟩))
 all_goals
  have ENZ : Hid (En Ad w11 .nilIface 0) := ⟨0, rfl, Er.none _ _⟩
  have SMZ := hid (HSM.out.mono (q' := q + 1) (by omega))
  have X11 := hid ((X8.out.later hb11).older (t2 := q + 1) (by omega))
  clear C1 C2 C3 KZ
  go_wp2_with fail
  exact HK0.out _ _ ⟨_, _, _, _, _, _, _, _, f0_mk, ⟨ENZ.out, X11.out, SMZ.out, HGL2.out⟩⟩
end Rs
end Go.Proofs.YtnlcbheidiigaaaGreatDoor
