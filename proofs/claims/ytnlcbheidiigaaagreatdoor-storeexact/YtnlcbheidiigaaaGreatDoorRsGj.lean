/- A part of StoreExact. -/
import Derived.Test.YtnlcbheidiigaaaGreatDoorMal
import Derived.Deep.RegionWith
namespace Go.Proofs.YtnlcbheidiigaaaGreatDoor
namespace Rs
open Go.RowKit Go.Shelf Go.Maps
open At (cell_blk blk_seen blk_free)
set_option maxHeartbeats 3200000 in
set_option maxRecDepth 100000 in
theorem insert_yes {B : Nat} {W : World} {ub : Nat} {x : SV} {s : SD} (h : Sb B W ub x s) (i g : Int) (p : Prt) (hns : s.sets.length ≤ 900) (ha : s.r.aliveB i g = true) (hf : fitP s.ws p = true) (hx : (s.at i.toNat).length ≤ ix (s.at i.toNat) p.c) :
  Calls Tryz.prog 22 #[.pointer (some ⟨ub, 0, none⟩), .agg #[.int .i64 i, .int .i64 g], .agg #[.int .i64 p.c, .int .i64 p.v0, .int .i64 p.v1, .int .i64 p.v2, .int .i64 p.v3, .int .i64 p.t]] W fun e W' => e = .returned (.int .i64 (s.ins i g p).1) ∧ ∃ x', Gs B W ub x W' x' (s.ins i g p).2 := by
 obtain ⟨b2, k1, k2⟩ := two_blk W #[.int .i64 i, .int .i64 g] p.arr 43 47
 obtain ⟨W2, hW2⟩ : ∃ W2, W2 = (W.alloc (.cells #[.int .i64 i, .int .i64 g] 43)).alloc (.cells p.arr 47) := ⟨_, rfl⟩
 rw [← hW2] at b2 k1 k2
 have HW2 := hid hW2
 unfold Prt.arr at HW2
 clear hW2
 have T2 : Two B W ub x s i g p W2 := ⟨b2, h.later b2, k1, k2⟩
 have AL := hid (Ro.ralive_any T2.drew.sb.roll i g)
 obtain ⟨ba, hba⟩ : ∃ ba, ba = s.r.aliveB i g := ⟨_, rfl⟩
 rw [← hba] at AL
 have HBA := hid hba
 have H := hid h
 have HAL := hid ha
 have HFT := hid hf
 have HIX := hid hx
 clear ha hf hx
 have hw16 := h.okw.1
 obtain ⟨a0, a1, a2, a3, a4, a5, a6, a7, a8, a9, a10⟩ := T2.cells
 have T2 := hid T2
 clear h k1 k2 b2 hba
 go_enter Tryz.func22, Tryz.ntmps22
 go_wp2_with fail
 rw [← HW2.out]
 go_region_held3 (fun W' => W'.cell? ⟨ub, 2, none⟩ = some (.pointer (some ⟨x.rb, 0, none⟩)) ∧ W'.cell? ⟨W.heap.size, 0, none⟩ = some (.int .i64 i) ∧ W'.cell? ⟨W.heap.size, 1, none⟩ = some (.int .i64 g)) (go_keep) (first | (go_at_call 41; refine AL.out.mono ?_; rintro e w3 ⟨rfl, hb3⟩; have T3 := hid (T2.out.drew.later hb3); obtain ⟨c0, c1, c2, c3, c4, c5, c6, c7, c8, c9, c10⟩ := T3.out.cells))
 clear hb3 AL a0 a1 a2 a3 a4 a5 a6 a7 a8 a9 a10 T2
 cases ba with
 | false =>
  exact absurd (HBA.out.trans HAL.out) (by simp)
 | true =>
 obtain ⟨k, rfl, hkn⟩ := alive_lt HBA.out.symm
 have hk64 : k < 64 := by have := H.out.roll.small; omega
 have hki : (k : Int) < 64 := by omega
 have FT := hid (fits_any w3.drew x.va x.vb H.out.vb s.ws p T3.out.drew.sb.wd.row H.out.okw)
 obtain ⟨bf, hbf⟩ : ∃ bf, bf = fitP s.ws p := ⟨_, rfl⟩
 rw [← hbf] at FT
 have HBF := hid hbf
 clear hbf
 go_wp2_with fail
 go_region_held3 (fun W' => W'.cell? ⟨ub, 0, none⟩ = some x.va ∧ W'.cell? ⟨ub, 1, none⟩ = some x.vb ∧ W'.cell? ⟨W.heap.size + 1, 0, none⟩ = some (.int .i64 p.c) ∧ W'.cell? ⟨W.heap.size + 1, 1, none⟩ = some (.int .i64 p.v0) ∧ W'.cell? ⟨W.heap.size + 1, 2, none⟩ = some (.int .i64 p.v1) ∧ W'.cell? ⟨W.heap.size + 1, 3, none⟩ = some (.int .i64 p.v2) ∧ W'.cell? ⟨W.heap.size + 1, 4, none⟩ = some (.int .i64 p.v3) ∧ W'.cell? ⟨W.heap.size + 1, 5, none⟩ = some (.int .i64 p.t)) (go_keep) (first | (go_at_call 67; refine FT.out.mono ?_; rintro e w4 ⟨rfl, hb4⟩; have T4 := hid (T3.out.drew.later hb4); clear c0 c1 c2 c3 c4 c5 c6 c7 c8 c9 c10; obtain ⟨c0, c1, c2, c3, c4, c5, c6, c7, c8, c9, c10⟩ := T4.out.cells))
 clear hb4 FT T3
 cases bf with
 | false =>
  exact absurd (HBF.out.trans HFT.out) (by simp)
 | true =>
 obtain ⟨v, hv, cv, hp, hok⟩ := T4.out.sb.place hk64
 have hle := okL_few hok hw16
 have AT := hid (at_any w4.drew v (s.at k) p.c (hp.row.later (Below.refl _ w4).drew) (by omega))
 have HOK := hid hok
 have HP := hid hp
 clear hok hp hv hkn
 go_wp2_with fail
 go_region_held3 (fun W' => W'.cell? ⟨W.heap.size, 0, none⟩ = some (.int .i64 (k : Int)) ∧ W'.cell? ⟨ub, 3 + k, none⟩ = some v ∧ W'.cell? ⟨W.heap.size + 1, 0, none⟩ = some (.int .i64 p.c)) (go_keep) (first | (go_at_call 68; refine AT.out.mono ?_; rintro e w5 ⟨rfl, rfl⟩))
 clear AT
 rw [Int.toNat_natCast] at HIX
 have EI : Hid (ixI (s.at k) p.c = -1) := by show _ = _; unfold ixI; rw [if_neg (by have := HIX.out; omega)]
 rw [EI.out]
 have E : Hid (s.ins (k : Int) g p = (0, (s.rowed k (insP (s.at k) p)).noted (mskP (insP (s.at k) p)))) := by show _ = _; unfold SD.ins; rw [← HBA.out, ← HBF.out, Int.toNat_natCast]; simp only [if_true]; rw [if_neg (by have := HIX.out; omega)]
 obtain ⟨wq, hwq⟩ : ∃ wq, wq = w4.drew := ⟨_, rfl⟩
 have TQ : Hid (Two B W ub x s (k : Int) g p wq) := by rw [hwq]; exact T4.out.drew
 rw [← hwq]
 clear hwq T4 cv HP
 obtain ⟨v', hv', cv, hp, -⟩ := TQ.out.sb.place hk64
 have HN := hid (insP_len (s.at k) p)
 have OKI := hid (HOK.out.ins HFT.out (ix_absent HIX.out))
 have WI : Hid (∀ W', Below wq.heap.size wq W' → Calls Tryz.prog 69 #[v', .agg #[.int .i64 p.c, .int .i64 p.v0, .int .i64 p.v1, .int .i64 p.v2, .int .i64 p.v3, .int .i64 p.t]] W' fun e w' => ∃ u, e = .returned u ∧ Hid (Prts wq.heap.size w' u (insP (s.at k) p)) ∧ Hid (Below wq.heap.size wq w')) := fun W' hb => (with_any W' v' (s.at k) p (hp.row.later hb) (by omega)).mono fun _ _ ⟨u, q1, q2, q3⟩ => ⟨u, q1, q2.lower hb.size, hb.trans (q3.mono hb.size)⟩
 have KU : Hid (∀ W', Below wq.heap.size wq W' → W'.cell? ⟨ub, 3 + k, none⟩ = some v' ∧ W'.frozen? ⟨ub, 3 + k, none⟩ = false ∧ W'.cell? ⟨W.heap.size, 0, none⟩ = some (.int .i64 (k : Int))) := fun W' hb => by
  have T := TQ.out.later hb
  refine ⟨T.sb.cp hv', blk_free T.sb.box _, cell_blk T.k1 rfl⟩
 obtain ⟨l, hl⟩ : ∃ l, l = insP (s.at k) p := ⟨_, rfl⟩
 rw [← hl] at WI OKI E
 have HL := hid hl
 obtain ⟨a0, a1, a2, a3, a4, a5, a6, a7, a8, a9, a10⟩ := TQ.out.cells
 clear hp hle hl EI HIX
 go_upto_region 7 with fail
 go_cut [32] from 33 to 46 (fun _ wx => ∃ x', Hid (Gs B W ub x wx x' (s.rowed k l)) ∧ Hid (wx.heap[W.heap.size]? = some (.cells #[.int .i64 (k : Int), .int .i64 g] 43 (0, 0))))
 case first =>
  rename_i J K' hJ hK
  go_region_with (go_at_call 69; refine (WI.out _ (by first | exact (Below.refl _ _).drew | exact (Below.refl _ _).drew.drew | exact Below.refl _ _)).mono ?_; rintro e w6 ⟨u6, rfl, hp6, hb6⟩; obtain ⟨ua, uc, rfl⟩ := hp6.out.slice; have ku1 := (KU.out _ hb6.out).1; have ku2 := (KU.out _ hb6.out).2.1; have ku3 := (KU.out _ hb6.out).2.2)
  all_goals
   have FN : Hid (Gs B W ub x (w6.setCell ⟨ub, 3 + k, none⟩ (.slice ua l.length uc)) { x with pv := x.pv.set k (.slice ua l.length uc) } (s.rowed k l) ∧ (w6.setCell ⟨ub, 3 + k, none⟩ (.slice ua l.length uc)).heap[W.heap.size]? = some (.cells #[.int .i64 (k : Int), .int .i64 g] 43 (0, 0))) := by
    refine ⟨(Gs.stay H.out TQ.out.bel).then (TQ.out.sb.put_row hb6.out hk64 hp6.out OKI.out), ?_⟩
    have q := (H.out.lt ub (.inl rfl)).2
    exact (Below.heap_setCell _ _ _ _ (by show W.heap.size ≠ ub; omega)).trans (blk_seen hb6.out (Nat.le_refl _) TQ.out.k1)
   clear hp6 hb6 ku1 ku2 ku3 KU WI
   exact hK _ _ (Met.intro (hJ _ _ ⟨_, _, _, _, _, _, _, _, _, _, _, _, _, _, _, ⟨_, FN.out.1, FN.out.2⟩, rfl⟩))
 case rest =>
  rename World => wx
  obtain ⟨x1, G1, K1⟩ := hcut
  have hat : (s.rowed k l).at k = l := by
   unfold SD.at SD.rowed
   rw [List.getD_eq_getElem?_getD, List.getElem?_set_self (by rw [H.out.n2]; exact hk64)]
   rfl
  obtain ⟨u1, hu1, cu, hp1, hok1⟩ := G1.out.sb.place hk64
  rw [hat] at hp1 hok1
  have hl16 : l.length ≤ 17 := by have := okL_few hok1 hw16; omega
  have MK : Hid (∀ W', Below wx.heap.size wx W' → Calls Tryz.prog 44 #[u1] W' fun e w' => e = .returned (.int .u32 (mskP l : Int)) ∧ w' = W') := fun W' hb => mask_any W' u1 l (hp1.row.later hb) (by omega) (okL_okC hok1 hw16)
  have NT : Hid (∀ W', Below wx.heap.size wx W' → Calls Tryz.prog 71 #[.pointer (some ⟨ub, 0, none⟩), .int .u32 (mskP l : Int)] W' fun e w' => e = .returned (.tuple #[]) ∧ Hid (∃ x', Gs B W ub x w' x' ((s.rowed k l).noted (mskP l)))) := fun W' hb => (note_any (G1.out.sb.later hb) (mskP l) (by show s.sets.length ≤ 1000; omega)).mono fun _ _ ⟨q1, x', q2⟩ => ⟨q1, x', (G1.out.then (Gs.stay G1.out.sb hb)).then q2⟩
  have e0 : wx.cell? ⟨W.heap.size, 0, none⟩ = some (.int .i64 (k : Int)) := cell_blk K1.out rfl
  have KK : Hid (∀ W', Below wx.heap.size wx W' → W'.cell? ⟨W.heap.size, 0, none⟩ = some (.int .i64 (k : Int)) ∧ W'.cell? ⟨ub, 3 + k, none⟩ = some u1) := fun W' hb => ⟨cell_blk (blk_seen hb (Nat.le_refl _) K1.out) rfl, (G1.out.sb.later hb).cp hu1⟩
  have hb0 : Below wx.heap.size wx wx.drew := (Below.refl _ _).drew
  have hb00 : Below wx.heap.size wx wx := Below.refl _ _
  clear hp1 hok1 hu1 hat a0 a1 a2 a3 a4 a5 a6 a7 a8 a9 a10 TQ KU WI
  go_upto_region 8 with fail
  go_region_with (first
   | (go_at_call 44; refine (MK.out _ (by first | assumption | exact hb0.drew)).mono ?_; rintro e w7 ⟨rfl, hq7⟩; obtain rfl := hq7.symm)
   | (go_at_call 71; refine (NT.out _ (by first | assumption | exact hb0.drew)).mono ?_; rintro e w8 ⟨rfl, h8⟩))
  all_goals
   clear MK NT KK
   go_wp2_with fail
   go_ret
   rw [E.out]
   exact ⟨rfl, h8.out⟩
end Rs
end Go.Proofs.YtnlcbheidiigaaaGreatDoor
