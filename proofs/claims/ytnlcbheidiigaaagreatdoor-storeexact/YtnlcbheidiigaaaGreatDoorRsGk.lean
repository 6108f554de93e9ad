/- A part of StoreExact. -/
import Derived.Test.YtnlcbheidiigaaaGreatDoorRsGj
namespace Go.Proofs.YtnlcbheidiigaaaGreatDoor
namespace Rs
open Go.RowKit Go.Shelf Go.Maps
open At (St bAl cell_blk blk_seen blk_free)
def SD.rem (s : SD) (i g comp : Int) : SD := if (s.get i g comp).2 = 0 then (s.rowed i.toNat (remP (s.at i.toNat) comp)).noted (mskP (remP (s.at i.toNat) comp)) else s
theorem SD.get_zero {s : SD} {i g comp : Int} (h : (s.get i g comp).2 = 0) : s.r.aliveB i g = true := by
 unfold SD.get at h
 split at h
 ·assumption
 ·simp at h
theorem rowed_at {s : SD} {k : Nat} {l : List Prt} (h : s.p.length = 64) (hk : k < 64) : (s.rowed k l).at k = l := by
 unfold SD.at SD.rowed
 rw [List.getD_eq_getElem?_getD, List.getElem?_set_self (by rw [h]; exact hk)]
 rfl
structure Thr (B : Nat) (W : World) (ub : Nat) (x : SV) (s : SD) (i g : Int) (r q : Prt) (b3 : Nat) (w : World) : Prop where
 gs : ∃ x', Gs B W ub x w x' s ∧ ∀ b, x'.fp ub b → b < W.heap.size ∨ b3 < b
 k0 : w.heap[W.heap.size]? = some (.cells #[.int .i64 i, .int .i64 g] 43 (0, 0))
 k1 : w.heap[W.heap.size + 1]? = some (.cells r.arr 47 (0, 0))
 k3 : w.heap[b3]? = some (.cells q.arr 47 (0, 0))
 up : W.heap.size + 1 < b3
section
variable {B : Nat} {W w w' : World} {ub : Nat} {x : SV} {s : SD} {i g : Int} {r q : Prt} {b3 : Nat}
theorem Thr.later (h : Thr B W ub x s i g r q b3 w) (hb : Below w.heap.size w w') : Thr B W ub x s i g r q b3 w' := by
 obtain ⟨x', h1, h2⟩ := h.gs
 exact ⟨⟨x', h1.then (Gs.stay h1.sb hb), h2⟩, blk_seen hb (Nat.le_refl _) h.k0, blk_seen hb (Nat.le_refl _) h.k1, blk_seen hb (Nat.le_refl _) h.k3, h.up⟩
theorem Thr.turn {x1 x2 : SV} {s2 : SD} (h : Thr B W ub x s i g r q b3 w) (h1 : Gs B W ub x w x1 s) (hf : ∀ b, x1.fp ub b → b < W.heap.size ∨ b3 < b) (h2 : Gs B w ub x1 w' x2 s2) : Thr B W ub x s2 i g r q b3 w' := by
 have up := h.up
 have l3 := (Array.getElem?_eq_some_iff.1 h.k3).1
 have F : ∀ b, W.heap.size ≤ b → b ≤ b3 → ¬ x1.fp ub b := fun b q1 q2 q3 => by
  rcases hf b q3 with q | q <;> omega
 refine ⟨⟨x2, h1.then h2, fun b hb => ?_⟩, h2.st.at h.k0 (F _ (Nat.le_refl _) (by omega)), h2.st.at h.k1 (F _ (by omega) (by omega)), h2.st.at h.k3 (F _ (by omega) (Nat.le_refl _)), h.up⟩
 rcases h2.new b hb with q | q
 ·exact hf b q
 ·exact .inr (by omega)
end
theorem six_st (w : World) (b : Nat) (p : Prt) : St (fun k => k = b) w (six w b p) := by
 have c := fun (w : World) (j : Nat) (v : Value) => St.setCell (S := fun k => k = b) (a := w) (p := ⟨b, j, none⟩) v rfl
 exact (((((c w 0 _).trans (c _ 1 _) fun _ _ q => q).trans (c _ 2 _) fun _ _ q => q).trans (c _ 3 _) fun _ _ q => q).trans (c _ 4 _) fun _ _ q => q).trans (c _ 5 _) fun _ _ q => q
theorem Gs.beside {B : Nat} {W w w' : World} {ub b : Nat} {x x' : SV} {s' : SD} (h : Gs B W ub x w x' s') (hs : St (fun k => k = b) w w') (hb : W.heap.size ≤ b) (hn : ¬ x'.fp ub b) (hB : B ≤ W.heap.size) : Gs B W ub x w' x' s' :=
 ⟨h.sb.kept hs (fun k hk e => hn (e ▸ hk)) (hs.below (fun k e => by omega) h.sb.big), h.st.trans hs fun k hk e => by omega, h.new⟩
theorem Thr.fin {B : Nat} {W w : World} {ub : Nat} {x : SV} {s : SD} {i g : Int} {r q : Prt} {b3 : Nat} (h : Thr B W ub x s i g r q b3 w) (hB : B ≤ W.heap.size) (p : Prt) : ∃ x', Gs B W ub x (six w (W.heap.size + 1) p) x' s := by
 obtain ⟨x', h1, h2⟩ := h.gs
 have up := h.up
 exact ⟨x', h1.beside (six_st w _ p) (by omega) (fun e => by rcases h2 _ e with q | q <;> omega) hB⟩
set_option maxHeartbeats 6400000 in
set_option maxRecDepth 100000 in
theorem remove_any {B : Nat} {W : World} {ub : Nat} {x : SV} {s : SD} (h : Sb B W ub x s) (i g comp : Int) (hns : s.sets.length ≤ 900) :
  Calls Tryz.prog 24 #[.pointer (some ⟨ub, 0, none⟩), .agg #[.int .i64 i, .int .i64 g], .int .i64 comp] W fun e W' => e = .returned (.tuple #[(s.get i g comp).1.val, .int .i64 (s.get i g comp).2]) ∧ (∃ x', Gs B W ub x W' x' (s.rem i g comp)) ∧ ((s.get i g comp).2 ≠ 0 → Below W.heap.size W W') := by
 obtain ⟨b2, k1, k2⟩ := two_blk W #[.int .i64 i, .int .i64 g] Prt.zero.arr 43 47
 obtain ⟨W2, hW2⟩ : ∃ W2, W2 = (W.alloc (.cells #[.int .i64 i, .int .i64 g] 43)).alloc (.cells Prt.zero.arr 47) := ⟨_, rfl⟩
 rw [← hW2] at b2 k1 k2
 have hz2 : W2.heap.size = W.heap.size + 2 := by rw [hW2]; simp
 have HZ2 := hid hz2
 have HW2 := hid hW2
 unfold Prt.arr Prt.zero at HW2
 clear hW2 hz2
 have GA := hid (get_any (h.later b2) i g comp)
 obtain ⟨q, f, hqf⟩ : ∃ q f, s.get i g comp = (q, f) := ⟨_, _, rfl⟩
 rw [hqf] at GA
 rw [hqf]
 have HQF := hid hqf
 have H := hid h
 have e0 : W2.cell? ⟨W.heap.size, 0, none⟩ = some (.int .i64 i) := cell_blk k1 (j := 0) rfl
 have e1 : W2.cell? ⟨W.heap.size, 1, none⟩ = some (.int .i64 g) := cell_blk k1 (j := 1) rfl
 have B2 := hid b2
 have K1 := hid k1
 have K2 := hid k2
 have hw16 := h.okw.1
 clear h k1 k2 b2 hqf
 unfold Prt.val at GA
 go_enter Tryz.func24, Tryz.ntmps24
 go_upto_region 1 with fail
 rw [← HW2.out]
 go_wp2_with fail
 refine GA.out.mono ?_
 rintro e w3 ⟨rfl, hb3⟩
 obtain ⟨w4, hw4⟩ : ∃ w4, w4 = w3.alloc (.cells q.arr 47) := ⟨_, rfl⟩
 have b4 : Below w3.heap.size w3 w4 := by rw [hw4]; exact bAl _ _
 have b24 := hb3.trans (b4.mono hb3.size)
 obtain ⟨b3, hb3e⟩ : ∃ b3, b3 = w3.heap.size := ⟨_, rfl⟩
 have T4 : Hid (Thr B W ub x s i g Prt.zero q b3 w4) := by
  refine ⟨⟨x, Gs.stay H.out (B2.out.trans (b24.mono B2.out.size)), fun b hb => .inl (H.out.lt b hb).2⟩, blk_seen b24 (Nat.le_refl _) K1.out, blk_seen b24 (Nat.le_refl _) K2.out, by rw [hw4, hb3e]; exact heap_alloc_new w3 _, ?_⟩
  have := hb3.size
  have := HZ2.out
  omega
 have BE := hid (B2.out.trans (b24.mono B2.out.size))
 have HW4 := hid hw4
 unfold Prt.arr at HW4
 have HB3 := hid hb3e
 clear GA hb3 hw4 b4 b24 hb3e e0 e1 K1 K2 B2 HW2
 go_upto_region 2 with fail
 rw [← HW4.out, ← HB3.out]
 clear HW4 HB3
 obtain ⟨d0, d1, d2, d3, d4, d5⟩ := six_blk T4.out.k3
 obtain ⟨p0, p1, p2, p3, p4, p5⟩ := six_blk T4.out.k1
 simp only [Nat.zero_add] at d0 d1 d2 d3 d4 d5 p0 p1 p2 p3 p4 p5
 have hup := T4.out.up
 have n1 : ¬ (W.heap.size + 1 = b3) := by omega
 have n2 : ¬ (b3 = W.heap.size + 1) := by omega
 by_cases hf : f = 0
 ·subst hf
  have hal := SD.get_zero (s := s) (i := i) (g := g) (comp := comp) (by rw [HQF.out])
  obtain ⟨k, rfl, hkn⟩ := alive_lt hal
  have hk64 : k < 64 := by have := H.out.roll.small; omega
  have hki : (k : Int) < 64 := by omega
  obtain ⟨l, hl⟩ : ∃ l, l = remP (s.at k) comp := ⟨_, rfl⟩
  have ES : Hid (s.rem (k : Int) g comp = (s.rowed k l).noted (mskP l)) := by show _ = _; unfold SD.rem; rw [HQF.out, Int.toNat_natCast, hl]; simp
  obtain ⟨x1, h1, hf1⟩ := T4.out.gs
  obtain ⟨v', hv', cv, hp, hok⟩ := h1.sb.place hk64
  have hle := okL_few hok hw16
  have OKR : Hid (okL s.ws l) := by rw [hl]; exact hok.rem comp
  have WI : Hid (∀ W', Below w4.heap.size w4 W' → Calls Tryz.prog 79 #[v', .int .i64 comp] W' fun e w' => ∃ u, e = .returned u ∧ Hid (Prts w4.heap.size w' u l) ∧ Hid (Below w4.heap.size w4 w')) := fun W' hb => (without_any W' v' (s.at k) comp (hp.row.later hb) (by omega)).mono fun _ _ ⟨u, q1, q2, q3⟩ => ⟨u, q1, by rw [hl]; exact q2.lower hb.size, hb.trans (q3.mono hb.size)⟩
  have KU : Hid (∀ W', Below w4.heap.size w4 W' → W'.cell? ⟨ub, 3 + k, none⟩ = some v' ∧ W'.frozen? ⟨ub, 3 + k, none⟩ = false ∧ W'.cell? ⟨W.heap.size, 0, none⟩ = some (.int .i64 (k : Int))) := fun W' hb => by
   have T := h1.sb.later hb
   exact ⟨T.cp hv', blk_free T.box _, cell_blk (blk_seen hb (Nat.le_refl _) T4.out.k0) rfl⟩
  have e0 : w4.cell? ⟨W.heap.size, 0, none⟩ = some (.int .i64 (k : Int)) := cell_blk T4.out.k0 rfl
  have G1 := hid h1
  have F1 := hid hf1
  have HOK := hid hok
  clear hp hok hle hl hf1 h1 hal hkn
  go_upto_region 4 with fail
  go_cut [21] from 22 to 35 (fun _ wx => Hid (Thr B W ub x (s.rowed k l) (k : Int) g Prt.zero q b3 wx))
  case first =>
   rename_i J K' hJ hK
   go_region_with (go_at_call 79; refine (WI.out _ (by first | exact (Below.refl _ _).drew | exact (Below.refl _ _).drew.drew | exact Below.refl _ _)).mono ?_; rintro e w6 ⟨u6, rfl, hp6, hb6⟩; obtain ⟨ua, uc, rfl⟩ := hp6.out.slice; have ku1 := (KU.out _ hb6.out).1; have ku2 := (KU.out _ hb6.out).2.1; have ku3 := (KU.out _ hb6.out).2.2)
   all_goals
    have FN : Hid (Thr B W ub x (s.rowed k l) (k : Int) g Prt.zero q b3 (w6.setCell ⟨ub, 3 + k, none⟩ (.slice ua l.length uc))) := T4.out.turn G1.out F1.out (G1.out.sb.put_row hb6.out hk64 hp6.out OKR.out)
    clear hp6 hb6 ku1 ku2 ku3 KU WI
    exact hK _ _ (Met.intro (hJ _ _ ⟨_, _, _, _, _, _, _, _, _, _, _, _, _, _, _, FN.out, rfl⟩))
  case rest =>
   rename World => wx
   have TX := hcut
   clear hcut WI KU cv e0 d0 d1 d2 d3 d4 d5 p0 p1 p2 p3 p4 p5
   obtain ⟨x2, h2, hf2⟩ := TX.out.gs
   obtain ⟨u1, hu1, cu, hp1, hok1⟩ := h2.sb.place hk64
   rw [rowed_at H.out.n2 hk64] at hp1 hok1
   have hl16 : l.length ≤ 17 := by have := okL_few hok1 hw16; omega
   have MK : Hid (∀ W', Below wx.heap.size wx W' → Calls Tryz.prog 44 #[u1] W' fun e w' => e = .returned (.int .u32 (mskP l : Int)) ∧ w' = W') := fun W' hb => mask_any W' u1 l (hp1.row.later hb) (by omega) (okL_okC hok1 hw16)
   have NT : Hid (∀ W', Below wx.heap.size wx W' → Calls Tryz.prog 71 #[.pointer (some ⟨ub, 0, none⟩), .int .u32 (mskP l : Int)] W' fun e w' => e = .returned (.tuple #[]) ∧ Hid (Thr B W ub x ((s.rowed k l).noted (mskP l)) (k : Int) g Prt.zero q b3 w')) := fun W' hb => (note_any (h2.sb.later hb) (mskP l) (by show s.sets.length ≤ 1000; omega)).mono fun _ _ ⟨q1, x', q2⟩ => ⟨q1, (TX.out.later hb).turn (h2.then (Gs.stay h2.sb hb)) hf2 q2⟩
   have e0 : wx.cell? ⟨W.heap.size, 0, none⟩ = some (.int .i64 (k : Int)) := cell_blk TX.out.k0 rfl
   have hb0 : Below wx.heap.size wx wx.drew := (Below.refl _ _).drew
   have hb00 : Below wx.heap.size wx wx := Below.refl _ _
   clear hp1 hok1 hu1 h2 hf2
   go_upto_region 5 with fail
   go_region_with (first
    | (go_at_call 44; refine (MK.out _ (by first | assumption | exact hb0.drew)).mono ?_; rintro e w7 ⟨rfl, hq7⟩; obtain rfl := hq7.symm)
    | (go_at_call 71; refine (NT.out _ (by first | assumption | exact hb0.drew)).mono ?_; rintro e w8 ⟨rfl, h8⟩))
   all_goals
    obtain ⟨d0, d1, d2, d3, d4, d5⟩ := six_blk h8.out.k3
    obtain ⟨p0, p1, p2, p3, p4, p5⟩ := six_blk h8.out.k1
    simp only [Nat.zero_add] at d0 d1 d2 d3 d4 d5 p0 p1 p2 p3 p4 p5
    have fr := fun j => blk_free h8.out.k1 j
    clear MK NT cu e0 TX
    go_wp2_with fail
    have FIN := hid (h8.out.fin H.out.big q)
    obtain ⟨w5, hw5⟩ : ∃ w5, w5 = six w8 (W.heap.size + 1) q := ⟨_, rfl⟩
    obtain ⟨k5, -⟩ := six_set h8.out.k1 (p := q)
    rw [← hw5] at k5 FIN
    unfold six at hw5
    rw [← hw5]
    clear p0 p1 p2 p3 p4 p5
    obtain ⟨p0, p1, p2, p3, p4, p5⟩ := six_blk k5
    simp only [Nat.zero_add] at p0 p1 p2 p3 p4 p5
    rw [ES.out]
    exact bodyPost_ret (v := .tuple #[q.val, .int .i64 0]) (by simp [results, Tryz.results24, go_sem, p0, p1, p2, p3, p4, p5, Prt.val]) rfl ⟨rfl, FIN.out, fun q => absurd rfl q⟩
 ·have hfb : (f == 0) = false := by simp [hf]
  have ES : Hid (s.rem i g comp = s) := by show _ = _; unfold SD.rem; rw [HQF.out]; simp [hf]
  have fr := fun j => blk_free T4.out.k1 j
  clear hf
  go_wp2_with fail
  have FIN := hid (T4.out.fin H.out.big q)
  have BF := hid (BE.out.trans ((six_set T4.out.k1 (p := q)).2 W.heap.size (by omega)))
  obtain ⟨w5, hw5⟩ : ∃ w5, w5 = six w4 (W.heap.size + 1) q := ⟨_, rfl⟩
  obtain ⟨k5, -⟩ := six_set T4.out.k1 (p := q)
  rw [← hw5] at k5 FIN BF
  unfold six at hw5
  rw [← hw5]
  clear p0 p1 p2 p3 p4 p5
  obtain ⟨p0, p1, p2, p3, p4, p5⟩ := six_blk k5
  simp only [Nat.zero_add] at p0 p1 p2 p3 p4 p5
  rw [ES.out]
  exact bodyPost_ret (v := .tuple #[q.val, .int .i64 f]) (by simp [results, Tryz.results24, go_sem, p0, p1, p2, p3, p4, p5, Prt.val]) rfl ⟨rfl, FIN.out, fun _ => BF.out⟩
end Rs
end Go.Proofs.YtnlcbheidiigaaaGreatDoor
