/- A part of StoreExact. -/
import Derived.Test.YtnlcbheidiigaaaGreatDoorMal
namespace Go.Proofs.YtnlcbheidiigaaaGreatDoor
namespace Rs
open Go.RowKit Go.Shelf Go.Maps
set_option maxHeartbeats 3200000 in
set_option maxRecDepth 100000 in
theorem insert_no2 {B : Nat} {W : World} {ub : Nat} {x : SV} {s : SD} (h : Sb B W ub x s) (i g : Int) (p : Prt) (hno : s.r.aliveB i g = true → fitP s.ws p = true → ix (s.at i.toNat) p.c < (s.at i.toNat).length) :
  Calls Tryz.prog 22 #[.pointer (some ⟨ub, 0, none⟩), .agg #[.int .i64 i, .int .i64 g], .agg #[.int .i64 p.c, .int .i64 p.v0, .int .i64 p.v1, .int .i64 p.v2, .int .i64 p.v3, .int .i64 p.t]] W fun e W' => e = .returned (.int .i64 (s.ins i g p).1) ∧ (s.ins i g p).2 = s ∧ Below W.heap.size W W' := by
 obtain ⟨b2, k1, k2⟩ := two_blk W #[.int .i64 i, .int .i64 g] p.arr 43 47
 obtain ⟨W2, hW2⟩ : ∃ W2, W2 = (W.alloc (.cells #[.int .i64 i, .int .i64 g] 43)).alloc (.cells p.arr 47) := ⟨_, rfl⟩
 rw [← hW2] at b2 k1 k2
 have HW2 := hid hW2
 unfold Prt.arr at HW2
 clear hW2
 have T2 : Two B W ub x s i g p W2 := ⟨b2, h.later b2, k1, k2⟩
 have AL := hid (Ro.ralive_any T2.drew.sb.roll i g)
 obtain ⟨ba, hba⟩ : ∃ ba, ba = s.r.aliveB i g := ⟨_, rfl⟩
 rw [← hba] at AL
 have HBA := hid hba
 have H := hid h
 have HNO := hid hno
 clear hno
 have hw16 := h.okw.1
 obtain ⟨a0, a1, a2, a3, a4, a5, a6, a7, a8, a9, a10⟩ := T2.cells
 have T2 := hid T2
 clear h k1 k2 b2 hba
 go_enter Tryz.func22, Tryz.ntmps22
 go_wp2_with fail
 rw [← HW2.out]
 go_region_held3 (fun W' => W'.cell? ⟨ub, 2, none⟩ = some (.pointer (some ⟨x.rb, 0, none⟩)) ∧ W'.cell? ⟨W.heap.size, 0, none⟩ = some (.int .i64 i) ∧ W'.cell? ⟨W.heap.size, 1, none⟩ = some (.int .i64 g)) (go_keep) (first | (go_at_call 41; refine AL.out.mono ?_; rintro e w3 ⟨rfl, hb3⟩; have T3 := hid (T2.out.drew.later hb3); obtain ⟨c0, c1, c2, c3, c4, c5, c6, c7, c8, c9, c10⟩ := T3.out.cells))
 clear hb3 AL a0 a1 a2 a3 a4 a5 a6 a7 a8 a9 a10 T2
 cases ba with
 | false =>
  have E : Hid (s.ins i g p = (17, s)) := by show _ = _; unfold SD.ins; rw [← HBA.out]; rfl
  go_wp2_with fail
  go_ret
  rw [E.out]
  exact ⟨rfl, rfl, T3.out.bel⟩
 | true =>
 obtain ⟨k, rfl, hkn⟩ := alive_lt HBA.out.symm
 have hk64 : k < 64 := by have := H.out.roll.small; omega
 have hki : (k : Int) < 64 := by omega
 have FT := hid (fits_any w3.drew x.va x.vb H.out.vb s.ws p T3.out.drew.sb.wd.row H.out.okw)
 obtain ⟨bf, hbf⟩ : ∃ bf, bf = fitP s.ws p := ⟨_, rfl⟩
 rw [← hbf] at FT
 have HBF := hid hbf
 clear hbf
 go_wp2_with fail
 go_region_held3 (fun W' => W'.cell? ⟨ub, 0, none⟩ = some x.va ∧ W'.cell? ⟨ub, 1, none⟩ = some x.vb ∧ W'.cell? ⟨W.heap.size + 1, 0, none⟩ = some (.int .i64 p.c) ∧ W'.cell? ⟨W.heap.size + 1, 1, none⟩ = some (.int .i64 p.v0) ∧ W'.cell? ⟨W.heap.size + 1, 2, none⟩ = some (.int .i64 p.v1) ∧ W'.cell? ⟨W.heap.size + 1, 3, none⟩ = some (.int .i64 p.v2) ∧ W'.cell? ⟨W.heap.size + 1, 4, none⟩ = some (.int .i64 p.v3) ∧ W'.cell? ⟨W.heap.size + 1, 5, none⟩ = some (.int .i64 p.t)) (go_keep) (first | (go_at_call 67; refine FT.out.mono ?_; rintro e w4 ⟨rfl, hb4⟩; have T4 := hid (T3.out.drew.later hb4); clear c0 c1 c2 c3 c4 c5 c6 c7 c8 c9 c10; obtain ⟨c0, c1, c2, c3, c4, c5, c6, c7, c8, c9, c10⟩ := T4.out.cells))
 clear hb4 FT T3
 cases bf with
 | false =>
  have E : Hid (s.ins (k : Int) g p = (1, s)) := by show _ = _; unfold SD.ins; rw [← HBA.out, ← HBF.out]; rfl
  go_wp2_with fail
  go_ret
  rw [E.out]
  exact ⟨rfl, rfl, T4.out.bel⟩
 | true =>
 obtain ⟨v, hv, cv, hp, hok⟩ := T4.out.sb.place hk64
 have hle := okL_few hok hw16
 have AT := hid (at_any w4.drew v (s.at k) p.c (hp.row.later (Below.refl _ w4).drew) (by omega))
 have HOK := hid hok
 have HP := hid hp
 clear hok hp hv hkn
 go_wp2_with fail
 go_region_held3 (fun W' => W'.cell? ⟨W.heap.size, 0, none⟩ = some (.int .i64 (k : Int)) ∧ W'.cell? ⟨ub, 3 + k, none⟩ = some v ∧ W'.cell? ⟨W.heap.size + 1, 0, none⟩ = some (.int .i64 p.c)) (go_keep) (first | (go_at_call 68; refine AT.out.mono ?_; rintro e w5 ⟨rfl, rfl⟩))
 clear AT
 by_cases hix : ix (s.at k) p.c < (s.at k).length
 ·have E : Hid (s.ins (k : Int) g p = (9, s)) := by show _ = _; unfold SD.ins; rw [← HBA.out, ← HBF.out]; simp [hix]
  have EI : Hid (ixI (s.at k) p.c = (ix (s.at k) p.c : Int)) := by show _ = _; unfold ixI; rw [if_pos hix]
  rw [EI.out]
  have q0 : (0 : Int) ≤ (ix (s.at k) p.c : Int) := by omega
  generalize ix (s.at k) p.c = j at *
  go_wp2_with fail
  go_ret
  rw [E.out]
  exact ⟨rfl, rfl, T4.out.drew.bel⟩
 ·exact absurd (HNO.out HBA.out.symm HBF.out.symm) (by rw [Int.toNat_natCast]; exact hix)
end Rs
end Go.Proofs.YtnlcbheidiigaaaGreatDoor
