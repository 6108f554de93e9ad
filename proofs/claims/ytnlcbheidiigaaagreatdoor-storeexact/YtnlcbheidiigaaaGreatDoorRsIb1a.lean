/- A part of StoreExact. -/
import Derived.Test.YtnlcbheidiigaaaGreatDoorRsIa
namespace Go.Proofs.YtnlcbheidiigaaaGreatDoor
namespace Rs
open Go.RowKit Go.Shelf Go.Maps
open At (bAl cell_blk)
set_option maxHeartbeats 51200000 in
set_option maxRecDepth 1000000 in
theorem arm_1a (w2 : World) (Ad : Nat → Addr) (sb ub : Nat) (ca : Option Addr) (cc : Nat) (xs : List AX) (ga : Option Addr) (gc : Nat) (gl : List (Nat × Nat)) (q bx nb : Nat) (x : AX) (la : Option Addr) (lc : Nat) (i g : Int) (s : SD) (w8 : World) (u : Nat → Value) (h0 : R0 w2 Ad sb ub ga gc gl q bx nb x la lc i g s w8) (hk : x.kd = 1) (hK : (s.spawn x.l).1.2.2 = 0) (hu : u 111 = .int .i64 x.kd) (K0 : Act → World → Prop) (Q : Exit → Act → World → Prop) (hK0 : ∀ a' w', P2 w2 Ad sb ub ca cc xs q bx nb x la lc i g a' w' → K0 a' w') : Code.wp Tryz.prog sw1 (Exit.then K0 Q) (F0 ca cc xs sb ub ga gc gl q bx nb .nilIface 0 u) w8 := by
 unfold F0
 conv => arg 2; whnf
 rw [hu]
 clear hu
 have X8 := hid h0.rx
 have HSM := hid h0.rs
 have HGL := hid h0.rl
 have hq := Nat.le_of_lt h0.rq
 have h2 := h0.rq
 have h2i : (q : Int) < 150 := by omega
 have E2 := hid h0.re
 have OK := hid h0.ro
 have HL := hid h0.rn
 have LR := hid h0.rr
 have HI := hid h0.ri
 have hbn := h0.rb
 have XB := hid (rd_x X8.out)
 have XN := hid (rd_n X8.out)
 have y0 : w8.cell? ⟨bx, 0, none⟩ = some (.int .i64 x.kd) := cell_blk XB.out rfl
 have HK0 := hid hK0
 clear h0 hK0
 have q1 : (x.kd == 1) = true := by simp [hk]
 clear hk
 obtain ⟨A, Bq, K, s', hsp⟩ : ∃ A Bq K s', s.spawn x.l = ((A, Bq, K), s') := ⟨_, _, _, _, rfl⟩
 have sml : ∃ a b : Nat, (s.spawn x.l).1.1 = (a : Int) ∧ (s.spawn x.l).1.2.1 = (b : Int) ∧ a ≤ 1000 ∧ b ≤ 1000 := by
  obtain ⟨_, _, h⟩ := X8.out
  exact spawn_small HSM.out hq h.d.roll.small h.d.roll.ok x.l
 have smn := HSM.out.spawn x.l
 have ps := p_spawn X8.out E2.out.eight (by omega) LR.out HL.out OK.out.lt
 rw [hsp] at sml smn ps
 dsimp only at sml smn ps
 obtain ⟨an, bn, rfl, rfl, l1, l2⟩ := sml
 have SMN := hid smn
 have PS := hid ps
 have HSP := hid hsp
 have y4 : w8.cell? ⟨bx, 4, none⟩ = some (.slice la x.l.length lc) := cell_blk XB.out rfl
 clear ps smn hsp
 go_wp2_with fail
 refine PS.out.mono ?_
 rintro e w9 ⟨ev, rfl, hen9, hx9⟩
 obtain ⟨w10, hw10⟩ : ∃ w10, w10 = w9.alloc (.cells #[.int .i64 (an : Int), .int .i64 (bn : Int)] 43) := ⟨_, rfl⟩
 obtain ⟨cb, hcb⟩ : ∃ cb, cb = w9.heap.size := ⟨_, rfl⟩
 have x10 := hx9.alloc #[.int .i64 (an : Int), .int .i64 (bn : Int)] 43
 have en10 := hen9.later (bAl w9 (.cells #[.int .i64 (an : Int), .int .i64 (bn : Int)] 43))
 rw [← hw10, ← hcb] at x10
 rw [← hw10] at en10
 have EN10 := hid en10
 have X10 := hid x10
 have ds := d_spawn X10.out (fun g hg => by have := HSM.out.gens g hg; omega) (by have := HSM.out.sets; omega) LR.out HL.out OK.out.lt
 rw [HSP.out] at ds
 dsimp only at ds
 have DS := hid ds
 have HW10 := hid hw10
 have HCB := hid hcb
 clear PS hen9 hx9 hw10 hcb x10 en10 ds y4
 have y4 : w10.cell? ⟨bx, 4, none⟩ = some (.slice la x.l.length lc) := cell_blk (X10.out.at (k := bx) (o := bX x la lc) (by simp [rnd])) rfl
 go_upto_region 27 with fail
 rw [← HW10.out, ← HCB.out]
 go_wp2_with fail
 refine DS.out.mono ?_
 rintro e w11 ⟨rfl, hx11, hb11⟩
 obtain ⟨w12, hw12⟩ : ∃ w12, w12 = w11.alloc (.cells #[.int .i64 (an : Int), .int .i64 (bn : Int)] 43) := ⟨_, rfl⟩
 obtain ⟨db, hdb⟩ : ∃ db, db = w11.heap.size := ⟨_, rfl⟩
 have x12 := hx11.alloc #[.int .i64 (an : Int), .int .i64 (bn : Int)] 43
 have en12 := (EN10.out.over hb11).later (bAl w11 (.cells #[.int .i64 (an : Int), .int .i64 (bn : Int)] 43))
 rw [← hw12, ← hdb] at x12
 rw [← hw12] at en12
 have EN12 := hid en12
 have X12 := hid x12
 have d0 : w12.cell? ⟨cb, 0, none⟩ = some (.int .i64 (an : Int)) := cell_blk (X12.out.at (k := cb) (o := bE an bn) (by simp [rnd, bE])) rfl
 have d1 : w12.cell? ⟨cb, 1, none⟩ = some (.int .i64 (bn : Int)) := cell_blk (X12.out.at (k := cb) (o := bE an bn) (by simp [rnd, bE])) rfl
 have d2 : w12.cell? ⟨db, 0, none⟩ = some (.int .i64 (an : Int)) := cell_blk (X12.out.at (k := db) (o := bE an bn) (by simp [rnd, bE])) rfl
 have d3 : w12.cell? ⟨db, 1, none⟩ = some (.int .i64 (bn : Int)) := cell_blk (X12.out.at (k := db) (o := bE an bn) (by simp [rnd, bE])) rfl
 have NE := neqE (an : Int) (bn : Int) (I64_nat l1) (I64_nat l2)
 have HW12 := hid hw12
 have HDB := hid hdb
 have HL12 := hid (And.intro l1 l2)
 clear DS hx11 hb11 hw12 hdb x12 en12 HW10 HCB y4 EN10 X10 l1 l2
 go_upto_region 30 with fail
 rw [← HW12.out, ← HDB.out]
 clear HW12 HDB
 have hK0 : K = 0 := by have := hK; rw [HSP.out] at this; exact this
 subst hK0
 clear hK
 have G12 : Hid (Ro.Ents w2.heap.size w12 (.slice ga gl.length gc) gl) := by obtain ⟨_, _, h⟩ := X12.out; exact h.giv
 have hgl : gl.length ≤ 1000 := by have := HGL.out.2; omega
 have hgi : (gl.length : Int) ≤ 1000 := by omega
 have hB12 : w2.heap.size ≤ w12.heap.size := X12.out.bel.size
 go_wp2_with (at_builtin; refine Ro.wpList_ent rfl _ _ rfl G12.out hgl hB12 rfl rfl ?_; intro v' w13 ho hst hat)
 have X13 := hid ((X12.out.give ho.out (ro_st hst.out) hat.out).few (fr2 := (rnd bx nb x la lc i g Prt.zero Prt.zero)) fun y hy => by simp [hy])
 have E13 := hid (EN12.out.over (w' := w13) fun q => absurd rfl q)
 have G13 : Hid ((∀ p ∈ gl ++ [(an, bn)], p.1 ≤ 1000 ∧ p.2 ≤ 1000) ∧ (gl ++ [(an, bn)]).length ≤ q + 1) := by
  refine ⟨fun p hp => ?_, by have := HGL.out.2; simp; omega⟩
  rcases List.mem_append.1 hp with hp | hp
  ·exact HGL.out.1 p hp
  ·simp at hp; subst hp; exact HL12.out
 clear ho hst hat
 obtain ⟨gl3, hgl3⟩ : ∃ gl3, gl3 = gl ++ [(an, bn)] := ⟨_, rfl⟩
 rw [← hgl3] at X13 G13
 clear hgl3
 obtain ⟨ga3, gc3, rfl⟩ := X13.out.given
 go_wp2_with fail
 exact HK0.out _ _ ⟨_, _, _, _, _, _, _, _, f0_mk, ⟨E13.out, X13.out, SMN.out, G13.out⟩⟩
end Rs
end Go.Proofs.YtnlcbheidiigaaaGreatDoor
