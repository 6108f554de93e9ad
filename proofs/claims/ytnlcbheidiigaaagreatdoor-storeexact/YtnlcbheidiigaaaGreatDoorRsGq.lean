/- A part of StoreExact. -/
import Derived.Test.YtnlcbheidiigaaaGreatDoorRsGp
namespace Go.Proofs.YtnlcbheidiigaaaGreatDoor
namespace Rs
open Go.RowKit Go.Shelf Go.Maps
open At (St bAl)
theorem chF_get {s : SD} {comp fr : Int} {p : Nat × Nat} (h : p ∈ s.r.all) : So.chF s comp fr p = (decide ((s.get (p.1 : Int) (p.2 : Int) comp).2 = 0) && decide (fr ≤ (s.get (p.1 : Int) (p.2 : Int) comp).1.t)) := by
 have ha : s.r.aliveB (p.1 : Int) (p.2 : Int) = true := (So.all_iff s p).1 h
 have e : (s.at p.1)[ix (s.at p.1) comp]? = (s.at p.1).find? (fun q => q.c == comp) := by
  unfold ix
  rw [List.find?_eq_getElem?_findIdx]
 unfold So.chF SD.get
 rw [if_pos ha, Int.toNat_natCast, e]
 cases (s.at p.1).find? (fun q => q.c == comp) <;> simp
set_option maxHeartbeats 1600000 in
set_option maxRecDepth 100000 in
theorem changed_any {B : Nat} {W : World} {ub : Nat} {x : SV} {s : SD} (h : Sb B W ub x s) (comp fr : Int) :
  Calls Tryz.prog 33 #[.pointer (some ⟨ub, 0, none⟩), .int .i64 comp, .int .i64 fr] W fun e W' => ∃ v, e = .returned v ∧ Ro.Ents W.heap.size W' v (So.changedL s comp fr) ∧ Below W.heap.size W W' := by
 obtain ⟨w1, hw1⟩ : ∃ w1, w1 = W.alloc (.cells #[] 43) := ⟨_, rfl⟩
 have b1 : Below W.heap.size W w1 := by rw [hw1]; exact bAl _ _
 have z1 : w1.heap.size = W.heap.size + 1 := by rw [hw1]; simp
 have E0 : Hid (Ro.Ents W.heap.size w1 (.slice (some ⟨W.heap.size, 0, none⟩) 0 0) []) := by rw [hw1]; exact World.ownsRow_lit W #[] 0 (Nat.le_refl _) (Nat.zero_le _) rfl
 have h1 := h.later b1
 have c2 := h1.c2
 have LI := hid (Ro.rlist_any h1.roll)
 have H := hid h
 have HW1 := hid hw1
 have B1 := hid b1
 have Z1 := hid z1
 have hall : s.r.all.length ≤ 64 := by have := s.r.upto_len s.r.gens.length; have := h.roll.small; unfold Ro.RS.all; omega
 have CF : Hid (∀ p ∈ s.r.all, So.chF s comp fr p = (decide ((s.get (p.1 : Int) (p.2 : Int) comp).2 = 0) && decide (fr ≤ (s.get (p.1 : Int) (p.2 : Int) comp).1.t))) := fun p hp => chF_get hp
 clear hw1 b1 z1 h h1
 go_enter Tryz.func33, Tryz.ntmps33
 go_upto_region 2 with fail
 rw [← HW1.out]
 go_wp2_with fail
 refine LI.out.mono ?_
 rintro e w2 ⟨lu, rfl, hl2, hb2⟩
 have L2 := hid hl2
 have B2 := hid hb2
 obtain ⟨la, lc, rfl⟩ := hl2.slice
 obtain ⟨al, hal⟩ : ∃ al, al = s.r.all := ⟨_, rfl⟩
 have HAL := hid hal
 rw [← hal] at L2 hall CF
 have hal64 : (al.length : Int) ≤ 64 := by omega
 clear hl2 hb2 LI HW1 c2 hal
 go_wp2_with fail
 rw [← HAL.out]
 go_loopw [7, 9] (fun lv i wr => ∃ k : Nat, k ≤ al.length ∧ i = .int .i64 (k : Int) ∧ Hid (Ro.Ents W.heap.size wr lv ((al.take k).filter (So.chF s comp fr))) ∧ Hid (St (fun y => (Value.slice la al.length lc).ownBlock ≠ some y ∧ W.heap.size ≤ y) w2 wr) ∧ Hid (∀ y, lv.ownBlock = some y → (Value.slice la al.length lc).ownBlock ≠ some y)) (fun _ i _ => al.length - (intOf i).toNat)
 case atStart =>
  refine ⟨0, Nat.zero_le _, rfl, E0.out.later B2.out, St.refl _ _, fun y hy e => ?_⟩
  have := (World.ownsRow.lt L2.out y e).1
  have := Z1.out
  simp [Value.ownBlock] at hy
  omega
 case round =>
  obtain ⟨k, hk, rfl, HL, HS, HN⟩ := hrel
  clear E0
  have BR := hid ((B1.out.trans (B2.out.mono B1.out.size)).trans (HS.out.below (fun y hy => hy.2) (Nat.le_trans B1.out.size B2.out.size)))
  by_cases hlt : k < al.length
  ·have hki : (k : Int) < (al.length : Int) := by omega
   obtain ⟨p, hp⟩ := at_lt al k hlt
   have LR := hid (ents_kept L2.out HS.out fun y hy e => e.1 hy)
   obtain ⟨lb, rfl, -, -⟩ := L2.out.some (by omega)
   obtain ⟨d0, d1⟩ := LR.out.cell hp
   have GA := hid (get_any (H.out.later BR.out) (p.1 : Int) (p.2 : Int) comp)
   have NX := filter_next (So.chF s comp fr) hp
   rw [CF.out p (List.mem_of_getElem? hp)] at NX
   have hle2 : ((al.take k).filter (So.chF s comp fr)).length ≤ 1000 := by
    have := List.length_filter_le (So.chF s comp fr) (al.take k)
    simp at this ⊢
    omega
   generalize ((al.take k).filter (So.chF s comp fr)) = lo at *
   obtain ⟨q, f, hqf⟩ : ∃ q f, s.get (p.1 : Int) (p.2 : Int) comp = (q, f) := ⟨_, _, rfl⟩
   rw [hqf] at GA NX
   dsimp only at NX
   unfold Prt.val at GA
   obtain ⟨oa, oc, rfl⟩ := HL.out.slice
   have hwr : W.heap.size ≤ wr.heap.size := BR.out.size
   have hlb := (World.ownsRow.lt LR.out lb rfl).2
   have NXH := hid NX
   clear L2 H hqf NX CF
   go_wp2_with fail
   refine GA.out.mono ?_
   rintro e w3 ⟨rfl, hb3⟩
   obtain ⟨w4, hw4⟩ : ∃ w4, w4 = w3.alloc (.cells q.arr 47) := ⟨_, rfl⟩
   have b34 : Below w3.heap.size w3 w4 := by rw [hw4]; exact bAl _ _
   have b4 := hb3.trans (b34.mono hb3.size)
   have k4 : w4.heap[w3.heap.size]? = some (.cells q.arr 47 (0, 0)) := by rw [hw4]; exact heap_alloc_new w3 _
   have SD : Hid (St (fun y => (Value.slice (some ⟨lb, 0, none⟩) al.length lc).ownBlock ≠ some y ∧ W.heap.size ≤ y) w2 w4) := HS.out.trans (St.of_below (S := fun _ => False) b4) fun _ _ q => q.elim
   have LD : Hid (Ro.Ents W.heap.size w4 (.slice oa lo.length oc) lo) := HL.out.later b4
   have hwd : W.heap.size ≤ w4.heap.size := Nat.le_trans hwr b4.size
   have hlbw : lb < w4.heap.size := Nat.lt_of_lt_of_le hlb b4.size
   have g0 := At.seen (W := wr) b4 (Nat.le_refl _) d0
   have g1 := At.seen (W := wr) b4 (Nat.le_refl _) d1
   have HW4 := hid hw4
   unfold Prt.arr at HW4
   obtain ⟨p0, p1, p2, p3, p4, p5⟩ := six_blk k4
   simp only [Nat.zero_add] at p0 p1 p2 p3 p4 p5
   clear hb3 b34 b4 k4 hw4 GA d0 d1 HS HL LR hlb
   go_upto_region 7 with fail
   rw [← HW4.out]
   clear HW4
   obtain ⟨tt, ht⟩ : ∃ tt, tt = q.t := ⟨_, rfl⟩
   rw [← ht] at p5 NXH
   by_cases t1 : f = 0
   ·subst t1
    by_cases t2 : fr ≤ tt
    ·have e2 := NXH.out
     simp only [t2, decide_true, Bool.and_self, if_true] at e2
     have E2 := hid e2
     clear e2 NXH p0 p1 p2 p3 p4
     go_wp2_with (at_builtin; refine Ro.wpList_ent rfl _ _ rfl LD.out hle2 hwd rfl rfl ?_; intro v' w5 ho hst hat)
     have sf : Hid (St (fun y => (Value.slice (some ⟨lb, 0, none⟩) al.length lc).ownBlock ≠ some y ∧ W.heap.size ≤ y) w2 w5) := SD.out.trans (ro_st hst.out) fun y _ hy => ⟨fun e => HN.out y hy e, (World.ownsRow.lt LD.out y hy).1⟩
     have nf : Hid (∀ y, v'.ownBlock = some y → (Value.slice (some ⟨lb, 0, none⟩) al.length lc).ownBlock ≠ some y) := fun y hy e => by
      rcases hat.out with q | ⟨z, q1, q2⟩
      ·exact HN.out y (q ▸ hy) e
      ·rw [q1] at hy
       simp [Value.ownBlock] at hy e
       omega
     exact ⟨⟨k + 1, by omega, by go_num, by rw [E2.out]; exact ho.out, sf.out, nf.out⟩, by simp [intOf]; omega⟩
    ·have t2i : tt < fr := by omega
     have e2 := NXH.out
     simp only [decide_true, Bool.true_and, decide_eq_true_eq, if_neg t2] at e2
     have E2 := hid e2
     clear e2 NXH p0 p1 p2 p3 p4
     go_wp2_with fail
     exact ⟨⟨k + 1, by omega, by go_num, by rw [E2.out]; exact LD.out, SD.out, HN.out⟩, by simp [intOf]; omega⟩
   ·have t1b : (f == 0) = false := by simp [t1]
    have e2 := NXH.out
    simp only [decide_eq_false t1, Bool.false_and, Bool.false_eq_true, if_false] at e2
    have E2 := hid e2
    clear e2 NXH p0 p1 p2 p3 p4
    go_wp2_with fail
    exact ⟨⟨k + 1, by omega, by go_num, by rw [E2.out]; exact LD.out, SD.out, HN.out⟩, by simp [intOf]; omega⟩
  ·have hki : ¬ ((k : Int) < (al.length : Int)) := by omega
   have e1 : al.take k = al := by rw [show k = al.length by omega]; exact List.take_length
   rw [e1] at HL
   go_wp2_with fail
   go_ret
   exact ⟨_, rfl, by unfold So.changedL; rw [← HAL.out]; exact HL.out, BR.out⟩
end Rs
end Go.Proofs.YtnlcbheidiigaaaGreatDoor
