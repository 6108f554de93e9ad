/- A part of StoreExact. -/
import Derived.Test.YtnlcbheidiigaaaGreatDoorRsGm
import Derived.Test.YtnlcbheidiigaaaGreatDoorRsGr
namespace Go.Proofs.YtnlcbheidiigaaaGreatDoor
namespace Rs
open Go.RowKit Go.Shelf Go.Maps
open At (bAl cell_blk blk_seen blk_free)
attribute [local go_sem ↓] Go.wp_at_zero Go.wp_at_succ
set_option maxHeartbeats 6400000 in
set_option maxRecDepth 100000 in
theorem put_any {B : Nat} {W : World} {ub : Nat} {x : SV} {s : SD} (h : Sb B W ub x s) (i g : Int) (p : Prt) :
  Calls Tryz.prog 26 #[.pointer (some ⟨ub, 0, none⟩), .agg #[.int .i64 i, .int .i64 g], .agg #[.int .i64 p.c, .int .i64 p.v0, .int .i64 p.v1, .int .i64 p.v2, .int .i64 p.v3, .int .i64 p.t]] W fun e W' => e = .returned (.tuple #[(s.put i g p).1.val, .int .i64 (s.put i g p).2.1]) ∧ (∃ x', Gs B W ub x W' x' (s.put i g p).2.2) ∧ ((s.put i g p).2.1 ≠ 0 → Below W.heap.size W W') := by
 obtain ⟨W3, hW3, b3, k0, k1, k2, hz3⟩ := three_blk W #[.int .i64 i, .int .i64 g] p.arr Prt.zero.arr 43 47 47
 have HW3 := hid hW3
 unfold Prt.arr Prt.zero at HW3
 have F3 : Hid (Fb B W ub x s W3.heap.size [(W.heap.size, .cells #[.int .i64 i, .int .i64 g] 43 (0, 0)), (W.heap.size + 1, .cells p.arr 47 (0, 0)), (W.heap.size + 2, .cells Prt.zero.arr 47 (0, 0))] W3) := by
  refine ⟨⟨x, Gs.stay h b3, fun b hb => .inl (h.lt b hb).2⟩, fun y hy => ?_, Nat.le_refl _⟩
  simp at hy
  rcases hy with rfl | rfl | rfl
  ·exact ⟨k0, by simp, by simp; omega⟩
  ·exact ⟨k1, by simp, by simp; omega⟩
  ·exact ⟨k2, by simp, by simp; omega⟩
 have h3 := h.later b3
 obtain ⟨ba, hba⟩ : ∃ ba, ba = s.r.aliveB i g := ⟨_, rfl⟩
 obtain ⟨bf, hbf⟩ : ∃ bf, bf = fitP s.ws p := ⟨_, rfl⟩
 have AL : Hid (∀ W', Below W3.heap.size W3 W' → Calls Tryz.prog 41 #[.pointer (some ⟨x.rb, 0, none⟩), .agg #[.int .i64 i, .int .i64 g]] W' fun e w' => e = .returned (.bool ba) ∧ Below W3.heap.size W3 w') := fun W' hb => by
  have := Ro.ralive_any (h3.later hb).roll i g
  rw [← hba] at this
  exact this.mono fun _ _ ⟨q1, q2⟩ => ⟨q1, hb.trans (q2.mono hb.size)⟩
 have FT : Hid (∀ W', Below W3.heap.size W3 W' → Calls Tryz.prog 67 #[.agg #[x.va, x.vb], .agg #[.int .i64 p.c, .int .i64 p.v0, .int .i64 p.v1, .int .i64 p.v2, .int .i64 p.v3, .int .i64 p.t]] W' fun e w' => e = .returned (.bool bf) ∧ Below W3.heap.size W3 w') := fun W' hb => by
  have := fits_any W' x.va x.vb h.vb s.ws p (h3.later hb).wd.row h.okw
  rw [← hbf] at this
  exact this.mono fun _ _ ⟨q1, q2⟩ => ⟨q1, hb.trans (q2.mono hb.size)⟩
 have CE : Hid (∀ W', Below W3.heap.size W3 W' → W'.cell? ⟨ub, 0, none⟩ = some x.va ∧ W'.cell? ⟨ub, 1, none⟩ = some x.vb ∧ W'.cell? ⟨ub, 2, none⟩ = some (.pointer (some ⟨x.rb, 0, none⟩)) ∧ W'.cell? ⟨W.heap.size, 0, none⟩ = some (.int .i64 i) ∧ W'.cell? ⟨W.heap.size, 1, none⟩ = some (.int .i64 g) ∧ W'.cell? ⟨W.heap.size + 1, 0, none⟩ = some (.int .i64 p.c) ∧ W'.cell? ⟨W.heap.size + 1, 1, none⟩ = some (.int .i64 p.v0) ∧ W'.cell? ⟨W.heap.size + 1, 2, none⟩ = some (.int .i64 p.v1) ∧ W'.cell? ⟨W.heap.size + 1, 3, none⟩ = some (.int .i64 p.v2) ∧ W'.cell? ⟨W.heap.size + 1, 4, none⟩ = some (.int .i64 p.v3) ∧ W'.cell? ⟨W.heap.size + 1, 5, none⟩ = some (.int .i64 p.t)) := fun W' hb => by
  have S := h3.later hb
  have K0 := blk_seen hb (Nat.le_refl _) k0
  obtain ⟨d0, d1, d2, d3, d4, d5⟩ := six_blk (blk_seen hb (Nat.le_refl _) k1)
  exact ⟨S.c0, S.c1, S.c2, cell_blk K0 rfl, cell_blk K0 rfl, d0, by simpa using d1, by simpa using d2, by simpa using d3, by simpa using d4, by simpa using d5⟩
 obtain ⟨a0, a1, a2, a3, a4, a5, a6, a7, a8, a9, a10⟩ := CE.out W3 (Below.refl _ _)
 have H := hid h
 have HBA := hid hba
 have HBF := hid hbf
 have hw16 := h.okw.1
 have HB3 := hid b3
 clear h h3 hba hbf hW3 b3 k0 k1 k2
 go_enter Tryz.func26, Tryz.ntmps26
 go_upto_region 1 with fail
 rw [← HW3.out]
 clear HW3
 go_cut [24] from 10 to 23 (fun v24 wx => v24 = .bool (ba && !bf) ∧ Hid (Below W3.heap.size W3 wx))
 case first =>
  rename_i J K' hJ hK
  cases ba with
  | true =>
   first | (go_region_with (first
    | (go_at_call 41; refine (AL.out _ (by first | exact (Below.refl _ _).drew | exact Below.refl _ _)).mono ?_; rintro e w5 ⟨rfl, hb5⟩; obtain ⟨a0, a1, a2, a3, a4, a5, a6, a7, a8, a9, a10⟩ := CE.out _ hb5)
    | (go_at_call 67; refine (FT.out _ (by assumption)).mono ?_; rintro e w6 ⟨rfl, hb6⟩; obtain ⟨a0, a1, a2, a3, a4, a5, a6, a7, a8, a9, a10⟩ := CE.out _ hb6))) | fail
   all_goals exact hK _ _ (Met.intro (hJ _ _ ⟨_, _, _, _, _, _, _, _, _, _, _, _, _, _, _, ⟨by cases bf <;> rfl, by assumption⟩, rfl⟩))
  | false =>
   first | (go_region_with (first
    | (go_at_call 41; refine (AL.out _ (by first | exact (Below.refl _ _).drew | exact Below.refl _ _)).mono ?_; rintro e w5 ⟨rfl, hb5⟩; obtain ⟨a0, a1, a2, a3, a4, a5, a6, a7, a8, a9, a10⟩ := CE.out _ hb5))) | fail
   all_goals exact hK _ _ (Met.intro (hJ _ _ ⟨_, _, _, _, _, _, _, _, _, _, _, _, _, _, _, ⟨rfl, by assumption⟩, rfl⟩))
 case rest =>
  rename World => wx
  obtain ⟨rfl, HB⟩ := hcut
  have FX := hid (F3.out.later HB.out)
  clear AL FT
  have kz := FX.out.at (k := W.heap.size + 2) (o := .cells Prt.zero.arr 47 (0, 0)) (by simp)
  obtain ⟨p0, p1, p2, p3, p4, p5⟩ := six_blk kz
  simp only [Nat.zero_add] at p0 p1 p2 p3 p4 p5
  have fr := fun j => blk_free kz j
  by_cases hbad : (ba && !bf) = true
  ·have ES : Hid (s.put i g p = (Prt.zero, 1, s)) := by show _ = _; unfold SD.put; rw [← HBA.out, ← HBF.out, hbad]; rfl
   rw [hbad]
   have FIN := hid (FX.out.fin H.out.big (b := W.heap.size + 2) (o := .cells Prt.zero.arr 47 (0, 0)) (by simp) Prt.zero)
   clear a0 a1 a2 a3 a4 a5 a6 a7 a8 a9 a10 CE
   go_wp2_with fail
   have BF := hid ((HB3.out.trans (HB.out.mono HB3.out.size)).trans ((six_set kz (p := Prt.zero)).2 W.heap.size (by omega)))
   obtain ⟨w5, hw5⟩ : ∃ w5, w5 = six wx (W.heap.size + 2) Prt.zero := ⟨_, rfl⟩
   obtain ⟨k5, -⟩ := six_set kz (p := Prt.zero)
   rw [← hw5] at k5 FIN BF
   unfold six Prt.zero at hw5
   dsimp only at hw5
   rw [← hw5]
   clear p0 p1 p2 p3 p4 p5
   obtain ⟨p0, p1, p2, p3, p4, p5⟩ := six_blk k5
   simp only [Nat.zero_add] at p0 p1 p2 p3 p4 p5
   rw [ES.out]
   exact bodyPost_ret (v := .tuple #[Prt.zero.val, .int .i64 1]) (by simp [results, Tryz.results26, go_sem, p0, p1, p2, p3, p4, p5, Prt.val]) rfl ⟨rfl, FIN.out, fun _ => BF.out⟩
  ·have hgood : (ba && !bf) = false := by simpa using hbad
   rw [hgood]
   obtain ⟨a0, a1, a2, a3, a4, a5, a6, a7, a8, a9, a10⟩ := CE.out _ HB.out
   obtain ⟨x', g1, hf1⟩ := FX.out.gs
   have GA := hid (get_any g1.sb i g p.c)
   obtain ⟨q, f, hqf⟩ : ∃ q f, s.get i g p.c = (q, f) := ⟨_, _, rfl⟩
   rw [hqf] at GA
   unfold Prt.val at GA
   have HQF := hid hqf
   have HGD := hid hgood
   clear hbad hqf hgood g1 hf1 fr p0 p1 p2 p3 p4 p5 kz
   go_wp2_with fail
   refine GA.out.mono ?_
   rintro e w3 ⟨rfl, hb3⟩
   obtain ⟨w4, hw4⟩ : ∃ w4, w4 = w3.alloc (.cells q.arr 47) := ⟨_, rfl⟩
   have b4 : Below w3.heap.size w3 w4 := by rw [hw4]; exact bAl _ _
   obtain ⟨b3, hb3e⟩ : ∃ b3, b3 = w3.heap.size := ⟨_, rfl⟩
   have F4 : Hid (Fb B W ub x s w4.heap.size [(b3, .cells q.arr 47 (0, 0)), (W.heap.size, .cells #[.int .i64 i, .int .i64 g] 43 (0, 0)), (W.heap.size + 1, .cells p.arr 47 (0, 0)), (W.heap.size + 2, .cells Prt.zero.arr 47 (0, 0))] w4) := by
    refine (FX.out.later hb3).more ⟨x, Gs.stay H.out ((HB3.out.trans (HB.out.mono HB3.out.size)).trans (hb3.mono (HB3.out.trans (HB.out.mono HB3.out.size)).size)), fun b hb => (H.out.lt b hb).2⟩ b4 ?_ (by omega)
    rw [hw4, hb3e]
    exact heap_alloc_new w3 _
   have n3 : W.heap.size + 2 < b3 := by
    have := hb3.size
    have := HB.out.size
    omega
   have BE := hid ((HB3.out.trans (HB.out.mono HB3.out.size)).trans ((hb3.trans (b4.mono hb3.size)).mono (HB3.out.trans (HB.out.mono HB3.out.size)).size))
   have HW4 := hid hw4
   unfold Prt.arr at HW4
   have HB3E := hid hb3e
   clear GA hb3 hw4 b4 hb3e a0 a1 a2 a3 a4 a5 a6 a7 a8 a9 a10 CE F3 FX HB
   go_upto_region 4 with fail
   rw [← HW4.out, ← HB3E.out]
   clear HW4 HB3E
   have k3 := F4.out.at (k := b3) (o := .cells q.arr 47 (0, 0)) (by simp)
   have kz := F4.out.at (k := W.heap.size + 2) (o := .cells Prt.zero.arr 47 (0, 0)) (by simp)
   obtain ⟨d0, d1, d2, d3, d4, d5⟩ := six_blk k3
   obtain ⟨p0, p1, p2, p3, p4, p5⟩ := six_blk kz
   simp only [Nat.zero_add] at d0 d1 d2 d3 d4 d5 p0 p1 p2 p3 p4 p5
   have n1 : ¬ (W.heap.size + 2 = b3) := by omega
   have n2 : ¬ (b3 = W.heap.size + 2) := by omega
   have fr := fun j => blk_free kz j
   by_cases hf : f = 0
   ·subst hf
    have hal := SD.get_zero (s := s) (i := i) (g := g) (comp := p.c) (by rw [HQF.out])
    have hfit : fitP s.ws p = true := by
     have := HGD.out
     rw [HBA.out, HBF.out, hal] at this
     simpa using this
    obtain ⟨k, rfl, hkn⟩ := alive_lt hal
    have hk64 : k < 64 := by have := H.out.roll.small; omega
    have hki : (k : Int) < 64 := by omega
    obtain ⟨l, hl⟩ : ∃ l, l = insP (remP (s.at k) p.c) p := ⟨_, rfl⟩
    have ES : Hid (s.put (k : Int) g p = (q, 0, s.rowed k l)) := by show _ = _; unfold SD.put; rw [← HBA.out, ← HBF.out, HGD.out, HQF.out, Int.toNat_natCast, hl]; simp
    obtain ⟨x1, h1, hf1⟩ := F4.out.gs
    obtain ⟨v', hv', cv, hp, hok⟩ := h1.sb.place hk64
    have hle := okL_few hok hw16
    have OKR : Hid (okL s.ws l) := by rw [hl]; exact (hok.rem p.c).ins hfit (remP_no _ _)
    have hrl : (remP (s.at k) p.c).length ≤ 16 := Nat.le_trans (List.length_filter_le _ _) hle
    have WO : Hid (∀ W', Below w4.heap.size w4 W' → Calls Tryz.prog 79 #[v', .int .i64 p.c] W' fun e w' => ∃ u, e = .returned u ∧ Hid (Prts w4.heap.size w' u (remP (s.at k) p.c)) ∧ Hid (Below w4.heap.size w4 w')) := fun W' hb => (without_any W' v' (s.at k) p.c (hp.row.later hb) (by omega)).mono fun _ _ ⟨u, q1, q2, q3⟩ => ⟨u, q1, q2.lower hb.size, hb.trans (q3.mono hb.size)⟩
    have WI : Hid (∀ W' u, Hid (Prts w4.heap.size W' u (remP (s.at k) p.c)) → Hid (Below w4.heap.size w4 W') → Calls Tryz.prog 69 #[u, .agg #[.int .i64 p.c, .int .i64 p.v0, .int .i64 p.v1, .int .i64 p.v2, .int .i64 p.v3, .int .i64 p.t]] W' fun e w' => ∃ u, e = .returned u ∧ Hid (Prts w4.heap.size w' u l) ∧ Hid (Below w4.heap.size w4 w')) := fun W' u hu hb => (with_any W' u _ p hu.out.row (by omega)).mono fun _ _ ⟨u, q1, q2, q3⟩ => ⟨u, q1, by rw [hl]; exact q2.lower hb.out.size, hb.out.trans (q3.mono hb.out.size)⟩
    have KU : Hid (∀ W', Below w4.heap.size w4 W' → W'.cell? ⟨ub, 3 + k, none⟩ = some v' ∧ W'.frozen? ⟨ub, 3 + k, none⟩ = false ∧ W'.cell? ⟨W.heap.size, 0, none⟩ = some (.int .i64 (k : Int)) ∧ W'.cell? ⟨W.heap.size + 1, 0, none⟩ = some (.int .i64 p.c) ∧ W'.cell? ⟨W.heap.size + 1, 1, none⟩ = some (.int .i64 p.v0) ∧ W'.cell? ⟨W.heap.size + 1, 2, none⟩ = some (.int .i64 p.v1) ∧ W'.cell? ⟨W.heap.size + 1, 3, none⟩ = some (.int .i64 p.v2) ∧ W'.cell? ⟨W.heap.size + 1, 4, none⟩ = some (.int .i64 p.v3) ∧ W'.cell? ⟨W.heap.size + 1, 5, none⟩ = some (.int .i64 p.t)) := fun W' hb => by
     have T := h1.sb.later hb
     have FF := F4.out.later hb
     have kk := FF.at (k := W.heap.size + 1) (o := .cells p.arr 47 (0, 0)) (by simp)
     have ke := FF.at (k := W.heap.size) (o := .cells #[.int .i64 (k : Int), .int .i64 g] 43 (0, 0)) (by simp)
     obtain ⟨c0, c1, c2, c3, c4, c5⟩ := six_blk kk
     exact ⟨T.cp hv', blk_free T.box _, cell_blk ke rfl, c0, by simpa using c1, by simpa using c2, by simpa using c3, by simpa using c4, by simpa using c5⟩
    obtain ⟨e0, e1, e2, e3, e4, e5, e6, e7, e8⟩ := KU.out _ (Below.refl _ w4)
    have G1 := hid h1
    have F1 := hid hf1
    clear hp hok hle hl hf1 h1 hal hkn hrl hfit
    go_upto_region 6 with fail
    go_cut [38] from 39 to 55 (fun _ wx => Hid (Fb B W ub x (s.rowed k l) w4.heap.size [(b3, .cells q.arr 47 (0, 0)), (W.heap.size, .cells #[.int .i64 (k : Int), .int .i64 g] 43 (0, 0)), (W.heap.size + 1, .cells p.arr 47 (0, 0)), (W.heap.size + 2, .cells Prt.zero.arr 47 (0, 0))] wx))
    case first =>
     rename_i J K' hJ hK
     go_region_law (first
      | (go_simp; refine (WO.out _ (by first | exact (Below.refl _ _).drew | exact (Below.refl _ _).drew.drew | exact Below.refl _ _)).mono ?_; rintro e w6 ⟨u6, rfl, hp6, hb6⟩; obtain ⟨g0, g1, g2, g3, g4, g5, g6, g7, g8⟩ := KU.out _ hb6.out; clear WO)
      | (go_simp; refine (WI.out _ _ hp6 hb6).mono ?_; rintro e w7 ⟨u7, rfl, hp7, hb7⟩; obtain ⟨ua, uc, rfl⟩ := hp7.out.slice; obtain ⟨g0, g1, g2, g3, g4, g5, g6, g7, g8⟩ := KU.out _ hb7.out))
     all_goals
      have FN : Hid (Fb B W ub x (s.rowed k l) w4.heap.size [(b3, .cells q.arr 47 (0, 0)), (W.heap.size, .cells #[.int .i64 (k : Int), .int .i64 g] 43 (0, 0)), (W.heap.size + 1, .cells p.arr 47 (0, 0)), (W.heap.size + 2, .cells Prt.zero.arr 47 (0, 0))] (w7.setCell ⟨ub, 3 + k, none⟩ (.slice ua l.length uc))) := F4.out.turn G1.out F1.out (G1.out.sb.put_row hb7.out hk64 hp7.out OKR.out)
      exact hK _ _ (Met.intro (hJ _ _ ⟨_, _, _, _, _, _, _, _, _, _, _, _, _, _, _, _, _, _, FN.out, rfl⟩))
    case rest =>
     rename World => wx
     have TX := hcut
     clear hcut WI WO KU cv e0 e1 e2 e3 e4 e5 e6 e7 e8 d0 d1 d2 d3 d4 d5 p0 p1 p2 p3 p4 p5 fr k3 kz
     have k3 := TX.out.at (k := b3) (o := .cells q.arr 47 (0, 0)) (by simp)
     have kz := TX.out.at (k := W.heap.size + 2) (o := .cells Prt.zero.arr 47 (0, 0)) (by simp)
     obtain ⟨d0, d1, d2, d3, d4, d5⟩ := six_blk k3
     obtain ⟨p0, p1, p2, p3, p4, p5⟩ := six_blk kz
     simp only [Nat.zero_add] at d0 d1 d2 d3 d4 d5 p0 p1 p2 p3 p4 p5
     have fr := fun j => blk_free kz j
     go_wp2_with fail
     have FIN := hid (TX.out.fin H.out.big (b := W.heap.size + 2) (o := .cells Prt.zero.arr 47 (0, 0)) (by simp) q)
     obtain ⟨w5, hw5⟩ : ∃ w5, w5 = six wx (W.heap.size + 2) q := ⟨_, rfl⟩
     obtain ⟨k5, -⟩ := six_set (TX.out.at (k := W.heap.size + 2) (o := .cells Prt.zero.arr 47 (0, 0)) (by simp)) (p := q)
     rw [← hw5] at k5 FIN
     unfold six at hw5
     rw [← hw5]
     clear p0 p1 p2 p3 p4 p5
     obtain ⟨p0, p1, p2, p3, p4, p5⟩ := six_blk k5
     simp only [Nat.zero_add] at p0 p1 p2 p3 p4 p5
     rw [ES.out]
     exact bodyPost_ret (v := .tuple #[q.val, .int .i64 0]) (by simp [results, Tryz.results26, go_sem, p0, p1, p2, p3, p4, p5, Prt.val]) rfl ⟨rfl, FIN.out, fun q => absurd rfl q⟩
   ·have hfb : (f == 0) = false := by simp [hf]
    have ES : Hid (s.put i g p = (q, f, s)) := by show _ = _; unfold SD.put; rw [← HBA.out, ← HBF.out, HGD.out, HQF.out]; simp [hf]
    clear hf
    go_wp2_with fail
    have FIN := hid (F4.out.fin H.out.big (b := W.heap.size + 2) (o := .cells Prt.zero.arr 47 (0, 0)) (by simp) q)
    have BF := hid (BE.out.trans ((six_set (F4.out.at (k := W.heap.size + 2) (o := .cells Prt.zero.arr 47 (0, 0)) (by simp)) (p := q)).2 W.heap.size (by omega)))
    obtain ⟨w5, hw5⟩ : ∃ w5, w5 = six w4 (W.heap.size + 2) q := ⟨_, rfl⟩
    obtain ⟨k5, -⟩ := six_set (F4.out.at (k := W.heap.size + 2) (o := .cells Prt.zero.arr 47 (0, 0)) (by simp)) (p := q)
    rw [← hw5] at k5 FIN BF
    unfold six at hw5
    rw [← hw5]
    clear p0 p1 p2 p3 p4 p5
    obtain ⟨p0, p1, p2, p3, p4, p5⟩ := six_blk k5
    simp only [Nat.zero_add] at p0 p1 p2 p3 p4 p5
    rw [ES.out]
    exact bodyPost_ret (v := .tuple #[q.val, .int .i64 f]) (by simp [results, Tryz.results26, go_sem, p0, p1, p2, p3, p4, p5, Prt.val]) rfl ⟨rfl, FIN.out, fun _ => BF.out⟩
end Rs
end Go.Proofs.YtnlcbheidiigaaaGreatDoor
