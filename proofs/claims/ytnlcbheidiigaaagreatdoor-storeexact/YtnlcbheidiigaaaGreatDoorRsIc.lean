/- A part of StoreExact. -/
import Derived.Test.YtnlcbheidiigaaaGreatDoorRsIa
namespace Go.Proofs.YtnlcbheidiigaaaGreatDoor
namespace Rs
open Go.RowKit Go.Shelf Go.Maps
open At (bAl cell_blk)
open YtnlcbheidiigaaaGreatDoor.So (al)
open Co (I64 neqP)
set_option maxHeartbeats 51200000 in
set_option maxRecDepth 1000000 in
theorem rest_round (w2 : World) (Ad : Nat → Addr) (sb ub : Nat) (ca : Option Addr) (cc : Nat) (xs : List AX) (ga : Option Addr) (gc : Nat) (gl : List (Nat × Nat)) (q bx nb : Nat) (x : AX) (la : Option Addr) (lc : Nat) (i g : Int) (fv : Value) (K : Int) (s : SD) (pa : Prt) (wx : World) (u : Nat → Value) (hR : R2 w2 Ad sb ub ga gc gl q bx nb x la lc i g fv K s pa wx) (hE2 : Env w2 Ad) (hI : I64 i ∧ I64 g) (hOK : x.Ok w2) (K1 : Act → World → Prop) (Q : Exit → Act → World → Prop) (hK1 : ∀ a' w', P3 w2 sb ub ca cc xs q a' w' → K1 a' w') : Code.wp Tryz.prog tl1 (Exit.inBlock 1 (Exit.then K1 Q)) (F0 ca cc xs sb ub ga gc gl q bx nb fv K u) wx := by
 unfold F0
 conv => arg 2; whnf
 have EN := hid hR.rq
 have HR := hid hR.rx
 have HSM := hid hR.rs
 have HGL := hid hR.rl
 have E2 := hid hE2
 have HI := hid hI
 have OK := hid hOK
 have HK1 := hid hK1
 clear hR hE2 hI hOK hK1
 obtain ⟨rb, R1, R2, R3⟩ := HR.out.roll
 obtain ⟨sa, sc, RS⟩ := HR.out.sets
 obtain ⟨cnt, hcnt⟩ : ∃ cnt, cnt = s.r.count := ⟨_, rfl⟩
 obtain ⟨ns, hns⟩ : ∃ ns, ns = s.sets.length := ⟨_, rfl⟩
 have SML : Hid (s.r.gens.length ≤ 64 ∧ s.r.ok) := HR.out.small
 have EALL := hid (Ro.RS.all_count SML.out.2)
 have KS : Hid (∀ W', Below wx.heap.size wx W' → W'.cell? ⟨nb + 1, 0, none⟩ = some (.int .i64 pa.c) ∧ W'.cell? ⟨nb + 1, 1, none⟩ = some (.int .i64 pa.v0) ∧ W'.cell? ⟨nb + 1, 2, none⟩ = some (.int .i64 pa.v1) ∧ W'.cell? ⟨nb + 1, 3, none⟩ = some (.int .i64 pa.v2) ∧ W'.cell? ⟨nb + 1, 4, none⟩ = some (.int .i64 pa.v3) ∧ W'.cell? ⟨nb + 1, 5, none⟩ = some (.int .i64 pa.t) ∧ W'.cell? ⟨nb + 2, 0, none⟩ = some (.int .i64 pa.c) ∧ W'.cell? ⟨nb + 2, 1, none⟩ = some (.int .i64 pa.v0) ∧ W'.cell? ⟨nb + 2, 2, none⟩ = some (.int .i64 pa.v1) ∧ W'.cell? ⟨nb + 2, 3, none⟩ = some (.int .i64 pa.v2) ∧ W'.cell? ⟨nb + 2, 4, none⟩ = some (.int .i64 pa.v3) ∧ W'.cell? ⟨nb + 2, 5, none⟩ = some (.int .i64 pa.t) ∧ W'.cell? ⟨ub, 2, none⟩ = some (.pointer (some ⟨rb, 0, none⟩)) ∧ W'.cell? ⟨ub, 67, none⟩ = some (.slice sa ns sc)) := fun W' hb => by
  have A := rd_a (HR.out.later hb)
  have C := rd_b (HR.out.later hb)
  exact ⟨cell_blk A rfl, cell_blk A rfl, cell_blk A rfl, cell_blk A rfl, cell_blk A rfl, cell_blk A rfl, cell_blk C rfl, cell_blk C rfl, cell_blk C rfl, cell_blk C rfl, cell_blk C rfl, cell_blk C rfl, R1 W' hb, by rw [hns]; exact RS W' hb⟩
 have C1 : Hid (∀ W', Below wx.heap.size wx W' → Calls Tryz.prog 34 #[fv] W' fun e w' => e = .returned (.int .i64 K) ∧ Below wx.heap.size wx w') := fun W' hb => (number_en (E2.out.later (HR.out.later hb).bel) (EN.out.later hb)).mono fun _ _ ⟨q1, q2⟩ => ⟨q1, hb.trans (q2.mono hb.size)⟩
 have C2 : Hid (∀ W', Below wx.heap.size wx W' → Calls Tryz.prog 35 #[.pointer (some ⟨sb, 0, none⟩)] W' fun e w' => e = .returned (.int .i64 (cnt : Int)) ∧ Below wx.heap.size wx w') := fun W' hb => ((HR.out.later hb).count).mono fun _ _ ⟨q1, q2⟩ => ⟨by rw [q1, hcnt], by rw [q2]; exact hb⟩
 have C3 : Hid (∀ W', Below wx.heap.size wx W' → Calls Tryz.prog 36 #[.pointer (some ⟨rb, 0, none⟩)] W' fun e w' => (∃ ea ec, e = .returned (.slice ea cnt ec)) ∧ Below wx.heap.size wx w') := fun W' hb => (R2 W' hb).mono fun _ _ ⟨v, q1, q2, q3⟩ => by
  obtain ⟨ea, ec, rfl⟩ := Ro.Ents.slice q2
  exact ⟨⟨ea, ec, by rw [q1, EALL.out, hcnt]⟩, hb.trans (q3.mono hb.size)⟩
 have C4 : Hid (∀ W', Below wx.heap.size wx W' → Calls Tryz.prog 37 #[.pointer (some ⟨sb, 0, none⟩)] W' fun e w' => e = .returned (.int .i64 (ns : Int)) ∧ Below wx.heap.size wx w') := fun W' hb => ((HR.out.later hb).tables).mono fun _ _ ⟨q1, q2⟩ => ⟨by rw [q1, hns], by rw [q2]; exact hb⟩
 have R3' : Hid (∀ w' i g, Below wx.heap.size wx w' → Calls Tryz.prog 41 #[.pointer (some ⟨rb, 0, none⟩), .agg #[.int .i64 i, .int .i64 g]] w' fun e w2 => e = .returned (.bool (s.r.aliveB i g)) ∧ Below w'.heap.size w' w2) := R3
 have RB1 := hid R1
 have NP := neqP pa.c pa.v0 pa.v1 pa.v2 pa.v3 pa.t
 have hKK : (K != K) = false := by simp
 have hCC : ((cnt : Int) != (cnt : Int)) = false := by simp
 have hNN : ((ns : Int) != (ns : Int)) = false := by simp
 clear R1 R2 R3 RS hcnt hns EALL
 go_upto_region 56 with fail
 go_region_held3 (fun W' => W'.cell? ⟨nb + 1, 0, none⟩ = some (.int .i64 pa.c) ∧ W'.cell? ⟨nb + 1, 1, none⟩ = some (.int .i64 pa.v0) ∧ W'.cell? ⟨nb + 1, 2, none⟩ = some (.int .i64 pa.v1) ∧ W'.cell? ⟨nb + 1, 3, none⟩ = some (.int .i64 pa.v2) ∧ W'.cell? ⟨nb + 1, 4, none⟩ = some (.int .i64 pa.v3) ∧ W'.cell? ⟨nb + 1, 5, none⟩ = some (.int .i64 pa.t) ∧ W'.cell? ⟨nb + 2, 0, none⟩ = some (.int .i64 pa.c) ∧ W'.cell? ⟨nb + 2, 1, none⟩ = some (.int .i64 pa.v0) ∧ W'.cell? ⟨nb + 2, 2, none⟩ = some (.int .i64 pa.v1) ∧ W'.cell? ⟨nb + 2, 3, none⟩ = some (.int .i64 pa.v2) ∧ W'.cell? ⟨nb + 2, 4, none⟩ = some (.int .i64 pa.v3) ∧ W'.cell? ⟨nb + 2, 5, none⟩ = some (.int .i64 pa.t) ∧ W'.cell? ⟨ub, 2, none⟩ = some (.pointer (some ⟨rb, 0, none⟩)) ∧ W'.cell? ⟨ub, 67, none⟩ = some (.slice sa ns sc))
  (first | exact KS.out _ (by assumption) | exact KS.out _ (Below.refl _ _).drew | exact KS.out _ (Below.refl _ _))
  (first
   | (go_at_call 34; refine (C1.out _ (by first | assumption | exact (Below.refl _ _).drew | exact Below.refl _ _)).mono ?_; rintro e w9 ⟨rfl, hb9⟩)
   | (go_at_call 35; refine (C2.out _ (by assumption)).mono ?_; rintro e w10 ⟨rfl, hb10⟩)
   | (go_at_call 36; refine (C3.out _ (by assumption)).mono ?_; rintro e w11 ⟨⟨ea, ec, rfl⟩, hb11⟩)
   | (go_at_call 37; refine (C4.out _ (by assumption)).mono ?_; rintro e w12 ⟨rfl, hb12⟩))
 all_goals
  have X12 := hid (HR.out.later hb12)
  have B12 := hid hb12
  clear KS C1 C2 C3 C4 NP hKK hCC hNN hb12
  have XB12 := hid (rd_x X12.out)
  have XN12 := hid (rd_n X12.out)
  have n0 : w12.cell? ⟨nb, 0, none⟩ = some (.int .i64 i) := cell_blk XN12.out rfl
  have n1 : w12.cell? ⟨nb, 1, none⟩ = some (.int .i64 g) := cell_blk XN12.out rfl
  have y11 : w12.cell? ⟨bx, 11, none⟩ = some (.int .i64 x.comp) := cell_blk XB12.out rfl
  obtain ⟨pq, kq, hgq⟩ : ∃ pq kq, s.get i g x.comp = (pq, kq) := ⟨_, _, rfl⟩
  have pg := p_get X12.out E2.out.eight i g x.comp HI.out.1 HI.out.2 OK.out.c
  rw [hgq] at pg
  dsimp only at pg
  unfold Prt.val at pg
  have PG := hid pg
  have HGQ := hid hgq
  clear pg hgq
  go_wp2_with fail
  refine PG.out.mono ?_
  rintro e w13 ⟨ev, rfl, hen13, hb13⟩
  obtain ⟨w14, hw14⟩ : ∃ w14, w14 = w13.alloc (.cells #[.int .i64 pq.c, .int .i64 pq.v0, .int .i64 pq.v1, .int .i64 pq.v2, .int .i64 pq.v3, .int .i64 pq.t] 47) := ⟨_, rfl⟩
  obtain ⟨pb, hpb⟩ : ∃ pb, pb = w13.heap.size := ⟨_, rfl⟩
  have x14 := (X12.out.later hb13).alloc pq.arr 47
  have en14 := hen13.later (bAl w13 (.cells pq.arr 47))
  unfold Prt.arr at x14 en14
  rw [← hw14, ← hpb] at x14
  rw [← hw14] at en14
  have b14 : Below w12.heap.size w12 w14 := by rw [hw14]; exact hb13.trans ((bAl w13 _).mono hb13.size)
  have X14 := hid x14
  have EN14 := hid en14
  have B14 := hid (B12.out.trans (b14.mono B12.out.size))
  have HW14 := hid hw14
  have HPB := hid hpb
  clear PG hen13 hb13 hw14 hpb x14 en14 b14 n0 n1 y11 XB12 XN12
  have n0 : w14.cell? ⟨nb, 0, none⟩ = some (.int .i64 i) := cell_blk (X14.out.at (k := nb) (o := bE i g) (by simp [rnd])) rfl
  have n1 : w14.cell? ⟨nb, 1, none⟩ = some (.int .i64 g) := cell_blk (X14.out.at (k := nb) (o := bE i g) (by simp [rnd])) rfl
  have y11 : w14.cell? ⟨bx, 11, none⟩ = some (.int .i64 x.comp) := cell_blk (X14.out.at (k := bx) (o := bX x la lc) (by simp [rnd])) rfl
  have dg := d_get X14.out i g x.comp
  rw [HGQ.out] at dg
  dsimp only at dg
  unfold Prt.val at dg
  have DG := hid dg
  clear dg
  go_upto_region 59 with fail
  rw [← HW14.out, ← HPB.out]
  clear HW14 HPB
  go_wp2_with fail
  refine DG.out.mono ?_
  rintro e w15 ⟨rfl, hb15⟩
  obtain ⟨w16, hw16⟩ : ∃ w16, w16 = w15.alloc (.cells #[.int .i64 pq.c, .int .i64 pq.v0, .int .i64 pq.v1, .int .i64 pq.v2, .int .i64 pq.v3, .int .i64 pq.t] 47) := ⟨_, rfl⟩
  obtain ⟨qb, hqb⟩ : ∃ qb, qb = w15.heap.size := ⟨_, rfl⟩
  have x16 := (X14.out.later hb15).alloc pq.arr 47
  have en16 := (EN14.out.later hb15).later (bAl w15 (.cells pq.arr 47))
  unfold Prt.arr at x16 en16
  rw [← hw16, ← hqb] at x16
  rw [← hw16] at en16
  have b16 : Below w14.heap.size w14 w16 := by rw [hw16]; exact hb15.trans ((bAl w15 _).mono hb15.size)
  have X16 := hid x16
  have EN16 := hid en16
  have B16 := hid (B14.out.trans (b16.mono B14.out.size))
  have HW16 := hid hw16
  have HQB := hid hqb
  clear DG hb15 hw16 hqb x16 en16 b16 n0 n1 y11
  have KS : Hid (∀ W', Below w16.heap.size w16 W' → W'.cell? ⟨pb, 0, none⟩ = some (.int .i64 pq.c) ∧ W'.cell? ⟨pb, 1, none⟩ = some (.int .i64 pq.v0) ∧ W'.cell? ⟨pb, 2, none⟩ = some (.int .i64 pq.v1) ∧ W'.cell? ⟨pb, 3, none⟩ = some (.int .i64 pq.v2) ∧ W'.cell? ⟨pb, 4, none⟩ = some (.int .i64 pq.v3) ∧ W'.cell? ⟨pb, 5, none⟩ = some (.int .i64 pq.t) ∧ W'.cell? ⟨qb, 0, none⟩ = some (.int .i64 pq.c) ∧ W'.cell? ⟨qb, 1, none⟩ = some (.int .i64 pq.v0) ∧ W'.cell? ⟨qb, 2, none⟩ = some (.int .i64 pq.v1) ∧ W'.cell? ⟨qb, 3, none⟩ = some (.int .i64 pq.v2) ∧ W'.cell? ⟨qb, 4, none⟩ = some (.int .i64 pq.v3) ∧ W'.cell? ⟨qb, 5, none⟩ = some (.int .i64 pq.t) ∧ W'.cell? ⟨nb, 0, none⟩ = some (.int .i64 i) ∧ W'.cell? ⟨nb, 1, none⟩ = some (.int .i64 g) ∧ W'.cell? ⟨ub, 2, none⟩ = some (.pointer (some ⟨rb, 0, none⟩))) := fun W' hb => by
   have A := (X16.out.later hb).at (k := pb) (o := bP pq) (by simp [rnd, bP, Prt.arr])
   have C := (X16.out.later hb).at (k := qb) (o := bP pq) (by simp [rnd, bP, Prt.arr])
   have N := (X16.out.later hb).at (k := nb) (o := bE i g) (by simp [rnd])
   exact ⟨cell_blk A rfl, cell_blk A rfl, cell_blk A rfl, cell_blk A rfl, cell_blk A rfl, cell_blk A rfl, cell_blk C rfl, cell_blk C rfl, cell_blk C rfl, cell_blk C rfl, cell_blk C rfl, cell_blk C rfl, cell_blk N rfl, cell_blk N rfl, RB1.out W' (B16.out.trans (hb.mono B16.out.size))⟩
  have C1 : Hid (∀ W', Below w16.heap.size w16 W' → Calls Tryz.prog 34 #[ev] W' fun e w' => e = .returned (.int .i64 kq) ∧ Below w16.heap.size w16 w') := fun W' hb => (number_en (E2.out.later (X16.out.later hb).bel) (EN16.out.later hb)).mono fun _ _ ⟨q1, q2⟩ => ⟨q1, hb.trans (q2.mono hb.size)⟩
  obtain ⟨al, hal⟩ : ∃ al, al = s.r.aliveB i g := ⟨_, rfl⟩
  have C2 : Hid (∀ W', Below w16.heap.size w16 W' → Calls Tryz.prog 40 #[.pointer (some ⟨sb, 0, none⟩), .agg #[.int .i64 i, .int .i64 g]] W' fun e w' => e = .returned (.bool al) ∧ Below w16.heap.size w16 w') := fun W' hb => ((X16.out.later hb).alive i g HI.out.1 HI.out.2).mono fun _ _ ⟨q1, q2⟩ => ⟨by rw [q1, hal], hb.trans (q2.mono hb.size)⟩
  have C3 : Hid (∀ W', Below w16.heap.size w16 W' → Calls Tryz.prog 41 #[.pointer (some ⟨rb, 0, none⟩), .agg #[.int .i64 i, .int .i64 g]] W' fun e w' => e = .returned (.bool al) ∧ Below w16.heap.size w16 w') := fun W' hb => (R3'.out W' i g (B16.out.trans (hb.mono B16.out.size))).mono fun _ _ ⟨q1, q2⟩ => ⟨by rw [q1, hal], hb.trans (q2.mono hb.size)⟩
  have NP := neqP pq.c pq.v0 pq.v1 pq.v2 pq.v3 pq.t
  have hKK : (kq != kq) = false := by simp
  have hAA : (al != al) = false := by simp
  clear hal
  go_upto_region 60 with fail
  rw [← HW16.out, ← HQB.out]
  clear HW16 HQB
  go_region_held3 (fun W' => W'.cell? ⟨pb, 0, none⟩ = some (.int .i64 pq.c) ∧ W'.cell? ⟨pb, 1, none⟩ = some (.int .i64 pq.v0) ∧ W'.cell? ⟨pb, 2, none⟩ = some (.int .i64 pq.v1) ∧ W'.cell? ⟨pb, 3, none⟩ = some (.int .i64 pq.v2) ∧ W'.cell? ⟨pb, 4, none⟩ = some (.int .i64 pq.v3) ∧ W'.cell? ⟨pb, 5, none⟩ = some (.int .i64 pq.t) ∧ W'.cell? ⟨qb, 0, none⟩ = some (.int .i64 pq.c) ∧ W'.cell? ⟨qb, 1, none⟩ = some (.int .i64 pq.v0) ∧ W'.cell? ⟨qb, 2, none⟩ = some (.int .i64 pq.v1) ∧ W'.cell? ⟨qb, 3, none⟩ = some (.int .i64 pq.v2) ∧ W'.cell? ⟨qb, 4, none⟩ = some (.int .i64 pq.v3) ∧ W'.cell? ⟨qb, 5, none⟩ = some (.int .i64 pq.t) ∧ W'.cell? ⟨nb, 0, none⟩ = some (.int .i64 i) ∧ W'.cell? ⟨nb, 1, none⟩ = some (.int .i64 g) ∧ W'.cell? ⟨ub, 2, none⟩ = some (.pointer (some ⟨rb, 0, none⟩)))
   (first | exact KS.out _ (by assumption) | exact KS.out _ (Below.refl _ _).drew | exact KS.out _ (Below.refl _ _))
   (first
    | (go_at_call 34; refine (C1.out _ (by first | assumption | exact (Below.refl _ _).drew | exact Below.refl _ _)).mono ?_; rintro e w17 ⟨rfl, hb17⟩)
    | (go_at_call 40; refine (C2.out _ (by assumption)).mono ?_; rintro e w18 ⟨rfl, hb18⟩)
    | (go_at_call 41; refine (C3.out _ (by assumption)).mono ?_; rintro e w19 ⟨rfl, hb19⟩))
  all_goals
   have X20 := hid ((X16.out.later (by first | exact hb19 | exact hb18)).few (fr2 := []) fun y hy => by simp at hy)
   clear KS C1 C2 C3 NP hKK hAA
   go_wp2_with fail
   exact HK1.out _ _ ⟨_, _, _, _, _, f3_mk, X20.out, HSM.out, HGL.out⟩
end Rs
end Go.Proofs.YtnlcbheidiigaaaGreatDoor
