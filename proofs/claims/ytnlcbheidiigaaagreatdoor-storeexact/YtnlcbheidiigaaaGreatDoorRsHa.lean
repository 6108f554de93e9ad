/- A part of StoreExact. -/
import Derived.Test.YtnlcbheidiigaaaGreatDoorRsGw
namespace Go.Proofs.YtnlcbheidiigaaaGreatDoor
namespace So
open Go.RowKit Go.Shelf Go.Maps
open At (bAl cell_blk Err)
open Sc (Cmp Rsc CmpRow RscRow SmallC SmallQ checkL)
set_option maxHeartbeats 1600000 in
set_option maxRecDepth 100000 in
theorem new_bad (Ad : Nat → Addr) (w : World) (va vb : Value) (cs : List Cmp) (rs : List Rsc) (hE : Env8 w Ad) (hC : CmpRow w va cs) (hQ : RscRow w vb rs) (hsC : SmallC cs) (hsQ : SmallQ rs) (hck : checkL cs rs ≠ []) (n : Int) :
  Calls Tryz.prog 10 #[.agg #[va, vb], .int .i64 n] w fun e w' => ∃ t q, e = .returned (.tuple #[.pointer none, .iface t q]) ∧ Top Ad w'.heap.size w' 3 (.iface t q) (checkL cs rs) ∧ Below w.heap.size w w' := by
 obtain ⟨w0, hw0⟩ : ∃ w0, w0 = w.alloc (.cells #[va, vb] 25) := ⟨_, rfl⟩
 have b0 : Below w.heap.size w w0 := by rw [hw0]; exact bAl _ _
 have r0 : w0.heap[w.heap.size]? = some (.cells #[va, vb] 25 (0, 0)) := by rw [hw0]; exact heap_alloc_new w _
 have CK := hid (Sc.check_any Ad w0 va vb cs rs (hE.later b0) (hC.later b0) (hQ.later b0) hsC hsQ)
 obtain ⟨a, c, rfl, hcap, -⟩ := hC
 obtain ⟨a', c', rfl, hcap', -⟩ := hQ
 have x0 : w0.cell? ⟨w.heap.size, 0, none⟩ = some (.slice a cs.length c) := cell_blk r0 rfl
 have x1 : w0.cell? ⟨w.heap.size, 1, none⟩ = some (.slice a' rs.length c') := cell_blk r0 rfl
 have HW0 := hid hw0
 have B0 := hid b0
 have HCK := hid hck
 clear hE hsC hsQ hck hw0 b0 r0 hcap hcap'
 go_enter Tryz.func10, Tryz.ntmps10
 go_upto_region 1 with fail
 rw [← HW0.out]
 go_wp2_with fail
 refine CK.out.mono ?_
 rintro e w1 ⟨v1, rfl, ht, hb⟩
 obtain ⟨t, q, rfl⟩ : ∃ t q, v1 = .iface t q := by
  rcases ht.tr.isIface with rfl | q
  ·exfalso
   refine HCK.out ?_
   rcases ht with ⟨-, q⟩ | ⟨p, -, q⟩ | ⟨b, vs, q, -⟩
   ·exact q
   ·obtain ⟨t, q', e, _⟩ := q.1.shape; cases e
   ·cases q
  ·exact q
 have HT := hid ht
 have BB := hid (B0.out.trans (hb.mono B0.out.size))
 clear CK ht hb x0 x1
 go_wp2_with fail
 go_ret2
 exact ⟨t, q, rfl, HT.out, BB.out⟩
set_option maxHeartbeats 1600000 in
set_option maxRecDepth 100000 in
theorem new_places (Ad : Nat → Addr) (w : World) (va vb : Value) (cs : List Cmp) (rs : List Rsc) (hE : Env8 w Ad) (hC : CmpRow w va cs) (hQ : RscRow w vb rs) (hsC : SmallC cs) (hsQ : SmallQ rs) (hck : checkL cs rs = []) (n : Int) (hn : n < 0 ∨ 64 < n) :
  Calls Tryz.prog 10 #[.agg #[va, vb], .int .i64 n] w fun e w' => ∃ t q, e = .returned (.tuple #[.pointer none, .iface t q]) ∧ Err Ad w' (.iface t q) 1 1 ∧ Below w.heap.size w w' := by
 obtain ⟨w0, hw0⟩ : ∃ w0, w0 = w.alloc (.cells #[va, vb] 25) := ⟨_, rfl⟩
 have b0 : Below w.heap.size w w0 := by rw [hw0]; exact bAl _ _
 have r0 : w0.heap[w.heap.size]? = some (.cells #[va, vb] 25 (0, 0)) := by rw [hw0]; exact heap_alloc_new w _
 have CK := hid (Sc.check_any Ad w0 va vb cs rs (hE.later b0) (hC.later b0) (hQ.later b0) hsC hsQ)
 rw [hck] at CK
 obtain ⟨a, c, rfl, hcap, -⟩ := hC
 obtain ⟨a', c', rfl, hcap', -⟩ := hQ
 have x0 : w0.cell? ⟨w.heap.size, 0, none⟩ = some (.slice a cs.length c) := cell_blk r0 rfl
 have x1 : w0.cell? ⟨w.heap.size, 1, none⟩ = some (.slice a' rs.length c') := cell_blk r0 rfl
 have HW0 := hid hw0
 have B0 := hid b0
 have RN : Hid (∀ w1, Env8 w1 Ad → Calls Tryz.prog 52 #[.int .i64 n] w1 fun e W' => ∃ v, e = .returned (.tuple #[.pointer none, v]) ∧ Ro.ErrAt Ad W' v Ro.bMost 1 ∧ Below w1.heap.size w1 W') := fun w1 h1 => by
  rcases hn with h | h
  ·exact Ro.new_low Ad w1 (Env8.four h1) n h
  ·exact Ro.new_high Ad w1 (Env8.four h1) n h
 have HE := hid (hE.later b0)
 clear hE hsC hsQ hck hw0 b0 r0 hcap hcap' hn
 go_enter Tryz.func10, Tryz.ntmps10
 go_upto_region 1 with fail
 rw [← HW0.out]
 go_wp2_with fail
 refine CK.out.mono ?_
 rintro e w1 ⟨v1, rfl, ht, hb⟩
 obtain rfl := top_nil ht
 have RR := hid (RN.out w1 (HE.out.later hb))
 have BB := hid (B0.out.trans (hb.mono B0.out.size))
 clear CK ht hb x0 x1 RN
 go_wp2_with fail
 refine RR.out.mono ?_
 rintro e w2 ⟨v2, rfl, h2, hb2⟩
 obtain ⟨t, q, rfl⟩ := h2.shape
 have H2 := hid h2
 have B2 := hid (BB.out.trans (hb2.mono BB.out.size))
 clear RR h2 hb2
 go_wp2_with fail
 go_ret2
 exact ⟨t, q, rfl, ⟨_, H2.out⟩, B2.out⟩
end So
end Go.Proofs.YtnlcbheidiigaaaGreatDoor
