/- A part of StoreExact. -/
import Derived.Test.YtnlcbheidiigaaaGreatDoorRsGo
namespace Go.Proofs.YtnlcbheidiigaaaGreatDoor
namespace Rs
open Go.RowKit Go.Shelf Go.Maps
open At (St bAl an bits_and32 mtB)
theorem mtB_plain {a b m : Nat} (ha : a < 4294967296) (hm : m < 4294967296) : mtB a b m = (decide (m &&& a = a) && decide (m &&& b = 0)) := by
 have : an a m = 0 ↔ m &&& a = a := by
  constructor
  ·intro h
   refine Nat.eq_of_testBit_eq fun i => ?_
   have := At.an_bit a m i ha hm
   rw [h, Nat.zero_testBit] at this
   rw [Nat.testBit_and]
   revert this
   cases m.testBit i <;> cases a.testBit i <;> simp
  ·intro h
   refine Nat.eq_of_testBit_eq fun i => ?_
   rw [At.an_bit a m i ha hm, Nat.zero_testBit]
   have e : (m &&& a).testBit i = a.testBit i := by rw [h]
   rw [Nat.testBit_and] at e
   revert e
   cases m.testBit i <;> cases a.testBit i <;> simp
 unfold mtB
 by_cases h : m &&& a = a
 ·simp [h, this.2 h]
 ·have : ¬ an a m = 0 := fun e => h (this.1 e)
  simp [h, this]
theorem filter_next {α : Type} (f : α → Bool) {l : List α} {k : Nat} {p : α} (h : l[k]? = some p) : (l.take (k + 1)).filter f = if f p = true then (l.take k).filter f ++ [p] else (l.take k).filter f := by
 rw [List.take_add_one, h, List.filter_append]
 simp only [Option.toList]
 split
 ·rename_i q; simp [q]
 ·rename_i q; simp [q]
theorem ents_kept {T : Nat → Prop} {B : Nat} {W W' : World} {v : Value} {l : List (Nat × Nat)} (h : Ro.Ents B W v l) (hs : St T W W') (hd : ∀ k, v.ownBlock = some k → ¬ T k) : Ro.Ents B W' v l := by
 refine ⟨h.1, ?_⟩
 rcases h.2 with h2 | ⟨g, cap, cur, q1, q2, q3, q4⟩
 ·exact .inl h2
 ·exact .inr ⟨g, cap, cur, q1, q2, hs.at q3 (hd g (by rw [q1]; rfl)), q4⟩
set_option maxHeartbeats 1600000 in
set_option maxRecDepth 100000 in
theorem match_any {B : Nat} {W : World} {ub : Nat} {x : SV} {s : SD} (h : Sb B W ub x s) (a b : Nat) (ha : a < 4294967296) (hb : b < 4294967296) :
  Calls Tryz.prog 31 #[.pointer (some ⟨ub, 0, none⟩), .int .u32 (a : Int), .int .u32 (b : Int)] W fun e W' => ∃ v, e = .returned v ∧ Ro.Ents W.heap.size W' v (So.matched s a b) ∧ Below W.heap.size W W' := by
 obtain ⟨w1, hw1⟩ : ∃ w1, w1 = W.alloc (.cells #[] 43) := ⟨_, rfl⟩
 have b1 : Below W.heap.size W w1 := by rw [hw1]; exact bAl _ _
 have z1 : w1.heap.size = W.heap.size + 1 := by rw [hw1]; simp
 have E0 : Hid (Ro.Ents W.heap.size w1 (.slice (some ⟨W.heap.size, 0, none⟩) 0 0) []) := by rw [hw1]; exact World.ownsRow_lit W #[] 0 (Nat.le_refl _) (Nat.zero_le _) rfl
 have h1 := h.later b1
 have c2 := h1.c2
 have LI := hid (Ro.rlist_any h1.roll)
 have H := hid h
 have HW1 := hid hw1
 have B1 := hid b1
 have Z1 := hid z1
 have HA := hid ha
 have HBb := hid hb
 have hall : s.r.all.length ≤ 64 := by have := s.r.upto_len s.r.gens.length; have := h.roll.small; unfold Ro.RS.all; omega
 have ALL : Hid (∀ p ∈ s.r.all, p.1 < 64) := fun p hp => by have := (Ro.RS.upto_mem hp).1; have := h.roll.small; omega
 have hw16 := h.okw.1
 clear hw1 b1 z1 h h1 ha hb
 go_enter Tryz.func31, Tryz.ntmps31
 go_upto_region 2 with fail
 rw [← HW1.out]
 go_wp2_with fail
 refine LI.out.mono ?_
 rintro e w2 ⟨lu, rfl, hl2, hb2⟩
 have L2 := hid hl2
 have B2 := hid hb2
 obtain ⟨la, lc, rfl⟩ := hl2.slice
 obtain ⟨al, hal⟩ : ∃ al, al = s.r.all := ⟨_, rfl⟩
 have HAL := hid hal
 rw [← hal] at L2 hall ALL
 have hal64 : (al.length : Int) ≤ 64 := by omega
 clear hl2 hb2 LI HW1 c2 hal
 go_wp2_with fail
 rw [← HAL.out]
 go_loopw [7, 9] (fun lv i wr => ∃ k : Nat, k ≤ al.length ∧ i = .int .i64 (k : Int) ∧ Hid (Ro.Ents W.heap.size wr lv ((al.take k).filter fun x => mtB a b (mskP (s.at x.1)))) ∧ Hid (St (fun y => (Value.slice la al.length lc).ownBlock ≠ some y ∧ W.heap.size ≤ y) w2 wr) ∧ Hid (∀ y, lv.ownBlock = some y → (Value.slice la al.length lc).ownBlock ≠ some y)) (fun _ i _ => al.length - (intOf i).toNat)
 case atStart =>
  refine ⟨0, Nat.zero_le _, rfl, E0.out.later B2.out, St.refl _ _, fun y hy e => ?_⟩
  have := (World.ownsRow.lt L2.out y e).1
  have := Z1.out
  simp [Value.ownBlock] at hy
  omega
 case round =>
  obtain ⟨k, hk, rfl, HL, HS, HN⟩ := hrel
  clear E0
  have BR := hid ((B1.out.trans (B2.out.mono B1.out.size)).trans (HS.out.below (fun y hy => hy.2) (Nat.le_trans B1.out.size B2.out.size)))
  by_cases hlt : k < al.length
  ·have hki : (k : Int) < (al.length : Int) := by omega
   obtain ⟨p, hp⟩ := at_lt al k hlt
   have hp64 := ALL.out p (List.mem_of_getElem? hp)
   have hpi : (p.1 : Int) < 64 := by omega
   have LR := hid (ents_kept L2.out HS.out fun y hy e => e.1 hy)
   obtain ⟨lb, rfl, -, -⟩ := L2.out.some (by omega)
   obtain ⟨d0, d1⟩ := LR.out.cell hp
   have HR := hid (H.out.later BR.out)
   obtain ⟨v, hv, cv, hpv, hok⟩ := HR.out.place hp64
   have hle := okL_few hok hw16
   have MK := hid (mask_any wr.drew v (s.at p.1) (hpv.row.later (Below.refl _ wr).drew) (by omega) (okL_okC hok hw16))
   have NX := hid (filter_next (fun x => mtB a b (mskP (s.at x.1))) hp)
   have hm := mskP_lt _ (okL_okC hok hw16)
   obtain ⟨m, em⟩ : ∃ m, m = mskP (s.at p.1) := ⟨_, rfl⟩
   rw [← em] at MK hm NX
   have ba := bits_and32 m a (by omega) HA.out
   have bb := bits_and32 m b (by omega) HBb.out
   have EQ := hid (mtB_plain (b := b) HA.out (show m < 4294967296 by omega))
   have hle2 : ((al.take k).filter fun x => mtB a b (mskP (s.at x.1))).length ≤ 1000 := by
    have := List.length_filter_le (fun x => mtB a b (mskP (s.at x.1))) (al.take k)
    simp at this ⊢
    omega
   generalize ((al.take k).filter fun x => mtB a b (mskP (s.at x.1))) = lo at *
   obtain ⟨oa, oc, rfl⟩ := HL.out.slice
   have hwr : W.heap.size ≤ wr.heap.size := BR.out.size
   clear hpv hok hv hle em L2 HR H
   go_wp2_with fail
   go_region_held3 (fun W' => W'.cell? ⟨lb, k * 2, none⟩ = some (.int .i64 (p.1 : Int)) ∧ W'.cell? ⟨ub, 3 + p.1, none⟩ = some v) (go_keep) (first | (go_at_call 44; refine MK.out.mono ?_; rintro e w4 ⟨rfl, rfl⟩))
   have SD : Hid (St (fun y => (Value.slice (some ⟨lb, 0, none⟩) al.length lc).ownBlock ≠ some y ∧ W.heap.size ≤ y) w2 wr.drew) := HS.out.trans (St.of_below (S := fun _ => False) (Below.refl _ _).drew) fun _ _ q => q.elim
   have LD : Hid (Ro.Ents W.heap.size wr.drew (.slice oa lo.length oc) lo) := HL.out.later (Below.refl _ _).drew
   have hwd : W.heap.size ≤ wr.drew.heap.size := hwr
   have hlbw : lb < wr.drew.heap.size := (World.ownsRow.lt LR.out lb rfl).2
   have D0 := d0
   have D1 := d1
   rw [← World.cell?_drew] at d0 d1
   generalize wr.drew = wd at *
   generalize m &&& a = ma at *
   generalize m &&& b = mb at *
   clear MK cv HS HL LR
   by_cases t1 : ma = a
   ·subst t1
    by_cases t2 : mb = 0
    ·subst t2
     have e2 := NX.out
     rw [EQ.out] at e2
     simp only [decide_true, Bool.and_self, if_true] at e2
     have E2 := hid e2
     clear e2
     go_wp2_with (at_builtin; refine Ro.wpList_ent rfl _ _ rfl LD.out hle2 hwd rfl rfl ?_; intro v' w5 ho hst hat)
     have sf : Hid (St (fun y => (Value.slice (some ⟨lb, 0, none⟩) al.length lc).ownBlock ≠ some y ∧ W.heap.size ≤ y) w2 w5) := SD.out.trans (ro_st hst.out) fun y _ hy => ⟨fun e => HN.out y hy e, (World.ownsRow.lt LD.out y hy).1⟩
     have nf : Hid (∀ y, v'.ownBlock = some y → (Value.slice (some ⟨lb, 0, none⟩) al.length lc).ownBlock ≠ some y) := fun y hy e => by
      rcases hat.out with q | ⟨z, q1, q2⟩
      ·exact HN.out y (q ▸ hy) e
      ·rw [q1] at hy
       simp [Value.ownBlock] at hy e
       omega
     exact ⟨⟨k + 1, by omega, by go_num, by rw [E2.out]; exact ho.out, sf.out, nf.out⟩, by simp [intOf]; omega⟩
    ·have t2i : ¬ ((mb : Int) = 0) := by omega
     have t2b : ((mb : Int) == 0) = false := by simp [t2]
     have e2 := NX.out
     rw [EQ.out] at e2
     simp only [decide_true, Bool.true_and, decide_eq_true_eq, if_neg t2] at e2
     have E2 := hid e2
     clear e2
     go_wp2_with fail
     exact ⟨⟨k + 1, by omega, by go_num, by rw [E2.out]; exact LD.out, SD.out, HN.out⟩, by simp [intOf]; omega⟩
   ·have t1i : ¬ ((ma : Int) = (a : Int)) := by omega
    have t1b : ((ma : Int) == (a : Int)) = false := by simp; omega
    have e2 := NX.out
    rw [EQ.out] at e2
    simp only [decide_eq_false t1, Bool.false_and, Bool.false_eq_true, if_false] at e2
    have E2 := hid e2
    clear e2
    go_wp2_with fail
    exact ⟨⟨k + 1, by omega, by go_num, by rw [E2.out]; exact LD.out, SD.out, HN.out⟩, by simp [intOf]; omega⟩
  ·have hki : ¬ ((k : Int) < (al.length : Int)) := by omega
   have e1 : al.take k = al := by rw [show k = al.length by omega]; exact List.take_length
   rw [e1] at HL
   go_wp2_with fail
   go_ret
   exact ⟨_, rfl, by unfold So.matched; rw [← HAL.out]; exact HL.out, BR.out⟩
end Rs
end Go.Proofs.YtnlcbheidiigaaaGreatDoor
