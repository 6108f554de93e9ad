/- A part of StoreExact. -/
import Derived.Test.YtnlcbheidiigaaaGreatDoorMal
namespace Go.Proofs.YtnlcbheidiigaaaGreatDoor
namespace Rs
open Go.RowKit Go.Shelf Go.Maps
open At (bAl cell_blk blk_seen)
open Sc (Cmp Rsc CmpRow RscRow SmallC SmallQ checkL rcheck_any)
set_option maxHeartbeats 1600000 in
set_option maxRecDepth 100000 in
theorem rnew_out (w : World) (va vb : Value) (_hva : ∃ a l c, va = .slice a l c) (_hvb : ∃ a l c, vb = .slice a l c) (n : Int) (hn : n < 0 ∨ 64 < n) :
  Calls Tryz.prog 11 #[.agg #[va, vb], .int .i64 n] w fun e w' => e = .returned (.pointer none) ∧ Below w.heap.size w w' := by
 obtain ⟨w0, hw0⟩ : ∃ w0, w0 = w.alloc (.cells #[va, vb] 25) := ⟨_, rfl⟩
 have b0 : Below w.heap.size w w0 := by rw [hw0]; exact bAl _ _
 have RN : Hid (Calls Tryz.prog 54 #[.int .i64 n] w0 fun e W' => e = .returned (.pointer none) ∧ W' = w0) := by
  rcases hn with h | h
  ·exact Ro.rnew_low w0 n h
  ·exact Ro.rnew_high w0 n h
 have HW0 := hid hw0
 have B0 := hid b0
 clear hn hw0 b0
 go_enter Tryz.func11, Tryz.ntmps11
 go_upto_region 1 with fail
 rw [← HW0.out]
 go_wp2_with fail
 refine RN.out.mono ?_
 rintro e w1 ⟨rfl, rfl⟩
 clear RN
 go_wp2_with fail
 go_ret
 exact ⟨rfl, B0.out⟩
set_option maxHeartbeats 1600000 in
set_option maxRecDepth 100000 in
theorem rnew_no (w : World) (va vb : Value) (cs : List Cmp) (rs : List Rsc) (hC : CmpRow w va cs) (hQ : RscRow w vb rs) (hsC : SmallC cs) (hsQ : SmallQ rs) (hck : checkL cs rs ≠ []) (n : Nat) (hn : n ≤ 64) :
  Calls Tryz.prog 11 #[.agg #[va, vb], .int .i64 (n : Int)] w fun e w' => e = .returned (.pointer none) ∧ Below w.heap.size w w' := by
 obtain ⟨w0, hw0⟩ : ∃ w0, w0 = w.alloc (.cells #[va, vb] 25) := ⟨_, rfl⟩
 have b0 : Below w.heap.size w w0 := by rw [hw0]; exact bAl _ _
 have r0 : w0.heap[w.heap.size]? = some (.cells #[va, vb] 25 (0, 0)) := by rw [hw0]; exact heap_alloc_new w _
 have RN := hid (Ro.rnew_some w0 n hn)
 have CK := hid (fun W' (hb : Below w0.heap.size w0 W') => rcheck_any W' va vb cs rs ((hC.later b0).later hb) ((hQ.later b0).later hb) hsC hsQ)
 have hpos : 0 < (checkL cs rs).length := List.length_pos_iff.2 hck
 generalize (checkL cs rs).length = m at *
 generalize leafCells (checkL cs rs) = lc at *
 obtain ⟨a, c, rfl, hcap, -⟩ := hC
 obtain ⟨a', c', rfl, hcap', -⟩ := hQ
 have hmi : (0 : Int) < (m : Int) := by omega
 have HW0 := hid hw0
 have B0 := hid b0
 have R0 := hid r0
 clear hsC hsQ hck hw0 b0 r0 hcap hcap'
 go_enter Tryz.func11, Tryz.ntmps11
 go_upto_region 1 with fail
 rw [← HW0.out]
 go_wp2_with fail
 refine RN.out.mono ?_
 rintro e w1 ⟨ub, gb, ib, fv, rfl, hr, hb1⟩
 have x0 : w1.cell? ⟨w.heap.size, 0, none⟩ = some (.slice a cs.length c) := cell_blk (blk_seen hb1 (Nat.le_refl _) R0.out) rfl
 have x1 : w1.cell? ⟨w.heap.size, 1, none⟩ = some (.slice a' rs.length c') := cell_blk (blk_seen hb1 (Nat.le_refl _) R0.out) rfl
 have CD := hid (CK.out w1 hb1)
 have B1 := hid (B0.out.trans (hb1.mono B0.out.size))
 clear RN CK hr hb1
 go_wp2_with fail
 refine CD.out.mono ?_
 rintro e w2 ⟨lv, rfl, ho, hb⟩
 obtain ⟨la, lc', rfl⟩ := own_slice ho
 have BB := hid (B1.out.trans (hb.mono B1.out.size))
 clear CD ho hb x0 x1
 go_wp2_with fail
 go_ret
 exact ⟨rfl, BB.out⟩
end Rs
end Go.Proofs.YtnlcbheidiigaaaGreatDoor
