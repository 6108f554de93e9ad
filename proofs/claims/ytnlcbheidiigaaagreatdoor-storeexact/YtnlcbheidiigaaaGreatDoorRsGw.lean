/- A part of StoreExact. -/
import Derived.Test.YtnlcbheidiigaaaGreatDoorRsGv
namespace Go.Proofs.YtnlcbheidiigaaaGreatDoor
namespace Rs
open Go.RowKit Go.Shelf Go.Maps
open At (bAl cell_blk blk_seen)
open Sc (Cmp Rsc CmpRow RscRow SmallC SmallQ checkL rcheck_any)
open YtnlcbheidiigaaaGreatDoor.So (madeS)
def madeV (va vb : Value) (rb gb ib : Nat) (fv : Value) (b : Nat) : SV := ⟨va, vb, rb, gb, ib, fv, 0, List.replicate 64 (.slice none 0 0), .slice (some ⟨b, 0, none⟩) 1 1⟩
theorem made_cells (a a' : Option Addr) (n c m c' rb gb ib : Nat) (fv : Value) (b : Nat) : (((Tryz.zeroCells81.setIfInBounds 0 (.slice a n c)).setIfInBounds 1 (.slice a' m c')).setIfInBounds 2 (.pointer (some ⟨rb, 0, none⟩))).setIfInBounds 67 (.slice (some ⟨b, 0, none⟩) 1 1) = (madeV (.slice a n c) (.slice a' m c') rb gb ib fv b).cells.toArray := by kernel_rfl
theorem rr_lower {B B' : Nat} {W : World} {ub gb ib t : Nat} {fv : Value} {r : Ro.RS} (h : Ro.Rr B W ub gb ib fv t r) (hB : B' ≤ B) : Ro.Rr B' W ub gb ib fv t r :=
 { h with free := ⟨h.free.1, h.free.2.elim .inl fun ⟨g, cap, cur, h1, h2, h3⟩ => .inr ⟨g, cap, cur, h1, Nat.le_trans hB h2, h3⟩⟩, low := ⟨Nat.le_trans hB h.low.1, Nat.le_trans hB h.low.2.1, Nat.le_trans hB h.low.2.2⟩ }
theorem wd_low {W w : World} {va : Value} {cs : List Cmp} {ws : List Nat} (hC : CmpRow W va cs) (hws : cs.map (fun c => c.wd) = ws.map fun (w : Nat) => (w : Int)) (hb : Below W.heap.size W w) : WdLow W.heap.size w va ws := by
 obtain ⟨a, c, rfl, -, h⟩ := hC
 have hl : cs.length = ws.length := by have := congrArg List.length hws; simpa using this
 refine ⟨a, c, by rw [hl], ?_⟩
 rcases h with h | ⟨b, o, h1, h2⟩
 ·left
  rw [h] at hl
  exact List.length_eq_zero_iff.1 hl.symm
 ·by_cases h0 : ws = []
  ·exact .inl h0
  ·have hp : 0 < cs.length := by rw [hl]; exact List.length_pos_iff.2 h0
   have hbl : b < W.heap.size := by
    obtain ⟨x, hx⟩ := at_lt cs 0 hp
    exact World.block_lt_of_cell? W _ (h2 0 x hx).1
   refine .inr ⟨b, o, h1, hbl, fun j x hx => ?_⟩
   obtain ⟨y, hy⟩ := at_lt cs j (by rw [hl]; exact (List.getElem?_eq_some_iff.1 hx).1)
   have e : y.wd = (x : Int) := by
    have := congrArg (fun l => l[j]?) hws
    simpa [hy, hx] using this
   have c1 := (h2 j y hy).2.1
   rw [e] at c1
   exact At.seen hb (Nat.le_refl _) c1
set_option maxHeartbeats 3200000 in
set_option maxRecDepth 100000 in
theorem rnew_ok (w : World) (va vb : Value) (cs : List Cmp) (rs : List Rsc) (hC : CmpRow w va cs) (hQ : RscRow w vb rs) (hsC : SmallC cs) (hsQ : SmallQ rs) (hck : checkL cs rs = []) (n : Nat) (hn : n ≤ 64) {B : Nat} (hB : B ≤ w.heap.size) {ws : List Nat} (hwd : WdLow B w va ws) (hok : okW ws) :
  Calls Tryz.prog 11 #[.agg #[va, vb], .int .i64 (n : Int)] w fun e w' => ∃ ub x, e = .returned (.pointer (some ⟨ub, 0, none⟩)) ∧ Sb B w' ub x (madeS ws n) ∧ (∀ k, x.fp ub k → w.heap.size ≤ k) ∧ Below w.heap.size w w' := by
 obtain ⟨w0, hw0⟩ : ∃ w0, w0 = w.alloc (.cells #[va, vb] 25) := ⟨_, rfl⟩
 have b0 : Below w.heap.size w w0 := by rw [hw0]; exact bAl _ _
 have r0 : w0.heap[w.heap.size]? = some (.cells #[va, vb] 25 (0, 0)) := by rw [hw0]; exact heap_alloc_new w _
 have RN := hid (Ro.rnew_some w0 n hn)
 have CK := hid (fun W' (hb : Below w0.heap.size w0 W') => rcheck_any W' va vb cs rs ((hC.later b0).later hb) ((hQ.later b0).later hb) hsC hsQ)
 rw [hck] at CK
 obtain ⟨a, c, rfl, hcap, -⟩ := hC
 obtain ⟨a', c', rfl, hcap', -⟩ := hQ
 have HWD := hid hwd
 have HOK := hid hok
 have HW0 := hid hw0
 have B0 := hid b0
 have R0 := hid r0
 clear hwd hok hsC hsQ hck hw0 b0 r0 hcap hcap'
 go_enter Tryz.func11, Tryz.ntmps11
 go_upto_region 1 with fail
 rw [← HW0.out]
 go_wp2_with fail
 refine RN.out.mono ?_
 rintro e w1 ⟨ub, gb, ib, fv, rfl, hr, hb1⟩
 have x0 : w1.cell? ⟨w.heap.size, 0, none⟩ = some (.slice a cs.length c) := cell_blk (blk_seen hb1 (Nat.le_refl _) R0.out) rfl
 have x1 : w1.cell? ⟨w.heap.size, 1, none⟩ = some (.slice a' rs.length c') := cell_blk (blk_seen hb1 (Nat.le_refl _) R0.out) rfl
 have CD := hid (CK.out w1 hb1)
 have B1 := hid (B0.out.trans (hb1.mono B0.out.size))
 have RR := hid hr
 have HB1 := hid hb1
 clear RN CK hr hb1
 go_wp2_with fail
 refine CD.out.mono ?_
 rintro e w2 ⟨lv, rfl, ho, hb⟩
 obtain ⟨la, lc', rfl⟩ := own_slice ho
 have BB := hid (B1.out.trans (hb.mono B1.out.size))
 have x0 : w2.cell? ⟨w.heap.size, 0, none⟩ = some (.slice a cs.length c) := cell_blk (blk_seen hb (Nat.le_refl _) (blk_seen HB1.out (Nat.le_refl _) R0.out)) rfl
 have x1 : w2.cell? ⟨w.heap.size, 1, none⟩ = some (.slice a' rs.length c') := cell_blk (blk_seen hb (Nat.le_refl _) (blk_seen HB1.out (Nat.le_refl _) R0.out)) rfl
 have R2 := hid (RR.out.later hb)
 clear CD ho hb
 go_upto_region 4 with fail
 obtain ⟨cz, hcz⟩ : ∃ cz, cz = (madeV (.slice a cs.length c) (.slice a' rs.length c') ub gb ib fv w2.heap.size).cells.toArray := ⟨_, rfl⟩
 have BS := hid (made_cells a a' cs.length c rs.length c' ub gb ib fv w2.heap.size)
 rw [← hcz] at BS
 obtain ⟨w3, hw3⟩ : ∃ w3, w3 = w2.alloc (.cells #[.int .u32 0] 49) := ⟨_, rfl⟩
 have b3 : Below w2.heap.size w2 w3 := by rw [hw3]; exact bAl _ _
 have z3 : w3.heap.size = w2.heap.size + 1 := by rw [hw3]; simp
 obtain ⟨w4, hw4⟩ : ∃ w4, w4 = w3.alloc (.cells cz 81) := ⟨_, rfl⟩
 have b4 : Below w3.heap.size w3 w4 := by rw [hw4]; exact bAl _ _
 have FIN : Hid (Sb B w4 (w2.heap.size + 1) (madeV (.slice a cs.length c) (.slice a' rs.length c') ub gb ib fv w2.heap.size) (madeS ws n) ∧ (∀ k, (madeV (.slice a cs.length c) (.slice a' rs.length c') ub gb ib fv w2.heap.size).fp (w2.heap.size + 1) k → w.heap.size ≤ k) ∧ Below w.heap.size w w4) := by
  have hw2 := BB.out.size
  have b24 : Below w2.heap.size w2 w4 := b3.trans (b4.mono b3.size)
  have bw4 : Below w.heap.size w w4 := BB.out.trans (b24.mono hw2)
  refine ⟨⟨?_, by omega, HWD.out.move (bw4.mono hB), ⟨_, _, _, rfl⟩, HOK.out, ?_, ?_, ?_, ?_, ?_, ?_⟩, ?_, bw4⟩
  ·rw [← hcz, hw4, ← z3]
   exact heap_alloc_new w3 _
  ·exact rr_lower (R2.out.later b24) (by have := B0.out.size; omega)
  ·show (List.replicate 64 (Value.slice none 0 0)).length = 64
   simp
  ·show (List.replicate 64 ([] : List Prt)).length = 64
   simp
  ·intro i v l hv hl
   have hv' : (List.replicate 64 (Value.slice none 0 0))[i]? = some v := hv
   have hl' : (List.replicate 64 ([] : List Prt))[i]? = some l := hl
   obtain rfl := List.eq_of_mem_replicate (List.mem_of_getElem? hv')
   obtain rfl := List.eq_of_mem_replicate (List.mem_of_getElem? hl')
   exact World.ownsRow_nil _ _ _ _
  ·intro l hl
   have hl' : l ∈ (List.replicate 64 ([] : List Prt)) := hl
   obtain rfl := List.eq_of_mem_replicate hl'
   exact ⟨List.Pairwise.nil, fun x hx => by simp at hx⟩
  ·have := World.ownsRow_lit (base := w2.heap.size) (e := 49) (size := 1) w2 #[.int .u32 0] 1 (Nat.le_refl _) (by decide) rfl
   rw [← hw3] at this
   exact At.Msk.lower (B := w2.heap.size) (At.Msk.later (l := [0]) this b4) (by omega)
  ·rintro k (rfl | hk | ⟨v, hv, hk⟩ | hk)
   ·omega
   ·have := (R2.out.lt k hk).1
    have := B0.out.size
    omega
   ·have hv' : v ∈ (List.replicate 64 (Value.slice none 0 0)) := hv
    obtain rfl := List.eq_of_mem_replicate hv'
    simp [Value.ownBlock] at hk
   ·obtain rfl : w2.heap.size = k := by simpa [madeV, Value.ownBlock] using hk
    omega
 have HW3 := hid hw3
 have HW4 := hid hw4
 clear hcz hw3 hw4 b3 b4 z3 R2
 go_wp2_with fail
 rw [← HW3.out, BS.out, ← HW4.out]
 go_ret
 exact ⟨_, _, rfl, FIN.out⟩
end Rs
end Go.Proofs.YtnlcbheidiigaaaGreatDoor
