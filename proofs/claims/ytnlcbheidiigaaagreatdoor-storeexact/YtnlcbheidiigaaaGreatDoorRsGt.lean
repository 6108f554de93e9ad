/- A part of StoreExact. -/
import Derived.Test.YtnlcbheidiigaaaGreatDoorRsGnb
import Derived.Test.YtnlcbheidiigaaaGreatDoorRsGy
namespace Go.Proofs.YtnlcbheidiigaaaGreatDoor
namespace Rs
open Go.RowKit Go.Shelf Go.Maps
open At (St bAl cell_blk blk_free)
open YtnlcbheidiigaaaGreatDoor.So (setQ)
section
variable {B : Nat} {W w w' : World} {ub : Nat} {x : SV} {s : SD} {T : Nat} {fr : List (Nat × Obj)}
theorem Fb.set {b : Nat} {o o' : Obj} (h : Fb B W ub x s T ((b, o) :: fr) w) (hB : B ≤ W.heap.size) (hs : St (fun k => k = b) w w') (ho : w'.heap[b]? = some o') (hne : ∀ y ∈ fr, y.1 ≠ b) : Fb B W ub x s T ((b, o') :: fr) w' := by
 obtain ⟨x', h1, h2⟩ := h.gs
 obtain ⟨-, q2, q3⟩ := h.fr' _ (List.mem_cons_self ..)
 refine ⟨⟨x', h1.beside hs q2 (fun e => by rcases h2 _ e with q | q <;> simp at * <;> omega) hB, h2⟩, fun y hy => ?_, Nat.le_trans h.top hs.size⟩
 rcases List.mem_cons.1 hy with rfl | hy
 ·exact ⟨ho, q2, q3⟩
 ·obtain ⟨r1, r2, r3⟩ := h.fr' y (List.mem_cons_of_mem _ hy)
  exact ⟨hs.at r1 (hne y hy), r2, r3⟩
theorem get_range {i g comp : Int} {q : Prt} (h : Sb B W ub x s) (hg : s.get i g comp = (q, 0)) : q.c = comp ∧ 0 ≤ comp ∧ comp < (s.ws.length : Int) := by
 have ha := SD.get_zero (s := s) (i := i) (g := g) (comp := comp) (by rw [hg])
 unfold SD.get at hg
 rw [if_pos ha] at hg
 obtain ⟨k, rfl, hkn⟩ := alive_lt ha
 rw [Int.toNat_natCast] at hg
 cases hq : (s.at k)[ix (s.at k) comp]? with
 | none => rw [hq] at hg; simp at hg
 | some p =>
  rw [hq] at hg
  obtain rfl : p = q := by simpa using hg
  have hm := List.mem_of_getElem? hq
  have hc : p.c = comp := by
   obtain ⟨h1, h2⟩ := List.getElem?_eq_some_iff.1 hq
   have h3 : List.findIdx (fun p : Prt => p.c == comp) (s.at k) < (s.at k).length := h1
   have := List.findIdx_getElem (w := h3)
   have h4 : (s.at k)[List.findIdx (fun p : Prt => p.c == comp) (s.at k)] = p := h2
   rw [h4] at this
   simpa using this
  have hk64 : k < 64 := by have := h.roll.small; omega
  obtain ⟨v', -, -, -, hok⟩ := h.place hk64
  have := hok.2 p hm
  exact ⟨hc, by omega, by omega⟩
end
set_option maxHeartbeats 6400000 in
set_option maxRecDepth 100000 in
theorem set_any {B : Nat} {W : World} {ub : Nat} {x : SV} {s : SD} (h : Sb B W ub x s) (i g comp cell value frame : Int) :
  Calls Tryz.prog 28 #[.pointer (some ⟨ub, 0, none⟩), .agg #[.int .i64 i, .int .i64 g], .int .i64 comp, .int .i64 cell, .int .i64 value, .int .i64 frame] W fun e W' => e = .returned (.tuple #[(s.setp i g comp cell value frame).1.val, .int .i64 (s.setp i g comp cell value frame).2.1]) ∧ (∃ x', Gs B W ub x W' x' (s.setp i g comp cell value frame).2.2) ∧ ((s.setp i g comp cell value frame).2.1 ≠ 0 → Below W.heap.size W W') := by
 obtain ⟨b2, k1, k2⟩ := two_blk W #[.int .i64 i, .int .i64 g] Prt.zero.arr 43 47
 obtain ⟨W2, hW2⟩ : ∃ W2, W2 = (W.alloc (.cells #[.int .i64 i, .int .i64 g] 43)).alloc (.cells Prt.zero.arr 47) := ⟨_, rfl⟩
 rw [← hW2] at b2 k1 k2
 have hz2 : W2.heap.size = W.heap.size + 2 := by rw [hW2]; simp
 have F2 : Hid (Fb B W ub x s W2.heap.size [(W.heap.size, .cells #[.int .i64 i, .int .i64 g] 43 (0, 0)), (W.heap.size + 1, .cells Prt.zero.arr 47 (0, 0))] W2) := by
  refine ⟨⟨x, Gs.stay h b2, fun b hb => .inl (h.lt b hb).2⟩, fun y hy => ?_, Nat.le_refl _⟩
  simp at hy
  rcases hy with rfl | rfl
  ·exact ⟨k1, by simp, by simp; omega⟩
  ·exact ⟨k2, by simp, by simp; omega⟩
 have h2 := h.later b2
 obtain ⟨q, f, hqf⟩ : ∃ q f, s.get i g comp = (q, f) := ⟨_, _, rfl⟩
 have GA := hid (get_any h2 i g comp)
 rw [hqf] at GA
 unfold Prt.val at GA
 have a0 := cell_blk (j := 0) k1 rfl
 have a1 := cell_blk (j := 1) k1 rfl
 have HW2 := hid hW2
 unfold Prt.arr Prt.zero at HW2
 have HQF := hid hqf
 have H := hid h
 have B2 := hid b2
 have HZ2 := hid hz2
 clear hW2 b2 k1 k2 hz2 h h2 hqf
 go_enter Tryz.func28, Tryz.ntmps28
 go_upto_region 1 with fail
 rw [← HW2.out]
 clear HW2
 go_wp2_with fail
 refine GA.out.mono ?_
 rintro e w3 ⟨rfl, hb3⟩
 obtain ⟨w4, hw4⟩ : ∃ w4, w4 = w3.alloc (.cells q.arr 47) := ⟨_, rfl⟩
 have b4 : Below w3.heap.size w3 w4 := by rw [hw4]; exact bAl _ _
 obtain ⟨b3, hb3e⟩ : ∃ b3, b3 = w3.heap.size := ⟨_, rfl⟩
 have F4 : Hid (Fb B W ub x s w4.heap.size [(b3, .cells q.arr 47 (0, 0)), (W.heap.size, .cells #[.int .i64 i, .int .i64 g] 43 (0, 0)), (W.heap.size + 1, .cells Prt.zero.arr 47 (0, 0))] w4) := by
  refine (F2.out.later hb3).more ⟨x, Gs.stay H.out (B2.out.trans (hb3.mono B2.out.size)), fun b hb => (H.out.lt b hb).2⟩ b4 ?_ (by omega)
  rw [hw4, hb3e]
  exact heap_alloc_new w3 _
 have n3 : W.heap.size + 1 < b3 := by
  have := hb3.size
  have := HZ2.out
  omega
 have BE := hid ((B2.out.trans (hb3.mono B2.out.size)).trans (b4.mono (B2.out.trans (hb3.mono B2.out.size)).size))
 have HW4 := hid hw4
 unfold Prt.arr at HW4
 have HB3E := hid hb3e
 have S4 := hid ((H.out.later B2.out).later hb3 |>.later b4)
 clear GA hb3 hw4 b4 hb3e a0 a1 F2
 go_upto_region 2 with fail
 rw [← HW4.out, ← HB3E.out]
 clear HW4 HB3E
 have k3 := F4.out.at (k := b3) (o := .cells q.arr 47 (0, 0)) (by simp)
 have kz := F4.out.at (k := W.heap.size + 1) (o := .cells Prt.zero.arr 47 (0, 0)) (by simp)
 obtain ⟨d0, d1, d2, d3, d4, d5⟩ := six_blk k3
 obtain ⟨p0, p1, p2, p3, p4, p5⟩ := six_blk kz
 simp only [Nat.zero_add] at d0 d1 d2 d3 d4 d5 p0 p1 p2 p3 p4 p5
 have n1 : ¬ (W.heap.size + 1 = b3) := by omega
 have n2 : ¬ (b3 = W.heap.size + 1) := by omega
 have fr := fun j => blk_free kz j
 have fr3 := fun j => blk_free k3 j
 by_cases hf : f = 0
 ·subst hf
  obtain ⟨hqc, hc0, hc1⟩ := get_range H.out HQF.out
  obtain ⟨cc, rfl⟩ : ∃ cc : Nat, comp = (cc : Int) := ⟨comp.toNat, by omega⟩
  obtain ⟨wd, hwd⟩ : ∃ wd, s.ws[cc]? = some wd := ⟨s.ws[cc]'(by omega), List.getElem?_eq_getElem _⟩
  have hw4 := S4.out.okw.2 wd (List.mem_of_getElem? hwd)
  obtain ⟨av, cv, bv, ov, hva, wc⟩ : ∃ av cv bv ov, x.va = .slice (some ⟨bv, ov, none⟩) s.ws.length cv ∧ av = () ∧ w4.cell? ⟨bv, ov + cc * 7 + 1, none⟩ = some (.int .i64 (wd : Int)) := by
   obtain ⟨a, c, e1, e2⟩ := S4.out.wd.row
   rcases e2 with e2 | ⟨b, o, e2, e3⟩
   ·rw [e2] at hwd; simp at hwd
   ·exact ⟨(), c, b, o, by rw [e1, e2], rfl, e3 cc wd hwd⟩
  obtain ⟨-, wc⟩ := wc
  have c0 := S4.out.c0
  rw [hva] at c0
  have hci : (cc : Int) < (s.ws.length : Int) := by omega
  have hl16 : (s.ws.length : Int) ≤ 16 := by have := S4.out.okw.1; omega
  have hwi : (wd : Int) ≤ 4 := by omega
  have GD : Hid (s.ws[((cc : Int)).toNat]?.getD 0 = wd) := by show _ = _; rw [Int.toNat_natCast, hwd]; rfl
  by_cases hcl : cell < 0 ∨ (wd : Int) ≤ cell
  ·have ES : Hid (s.setp i g (cc : Int) cell value frame = (Prt.zero, 1, s)) := by show _ = _; unfold SD.setp; rw [HQF.out, if_pos rfl, GD.out, if_pos hcl]
   by_cases hn : cell < 0
   ·clear hcl
    go_wp2_with fail
    have FIN := hid (F4.out.fin H.out.big (b := W.heap.size + 1) (o := .cells Prt.zero.arr 47 (0, 0)) (by simp) Prt.zero)
    have BF := hid (BE.out.trans ((six_set (F4.out.at (k := W.heap.size + 1) (o := .cells Prt.zero.arr 47 (0, 0)) (by simp)) (p := Prt.zero)).2 W.heap.size (by omega)))
    obtain ⟨w5, hw5⟩ : ∃ w5, w5 = six w4 (W.heap.size + 1) Prt.zero := ⟨_, rfl⟩
    obtain ⟨k5, -⟩ := six_set (F4.out.at (k := W.heap.size + 1) (o := .cells Prt.zero.arr 47 (0, 0)) (by simp)) (p := Prt.zero)
    rw [← hw5] at k5 FIN BF
    unfold six Prt.zero at hw5
    dsimp only at hw5
    rw [← hw5]
    clear p0 p1 p2 p3 p4 p5
    obtain ⟨p0, p1, p2, p3, p4, p5⟩ := six_blk k5
    simp only [Nat.zero_add] at p0 p1 p2 p3 p4 p5
    rw [ES.out]
    exact bodyPost_ret (v := .tuple #[Prt.zero.val, .int .i64 1]) (by simp [results, Tryz.results28, go_sem, p0, p1, p2, p3, p4, p5, Prt.val]) rfl ⟨rfl, FIN.out, fun _ => BF.out⟩
   ·have hge : (wd : Int) ≤ cell := by omega
    clear hcl
    go_wp2_with fail
    have FIN := hid (F4.out.fin H.out.big (b := W.heap.size + 1) (o := .cells Prt.zero.arr 47 (0, 0)) (by simp) Prt.zero)
    have BF := hid (BE.out.trans ((six_set (F4.out.at (k := W.heap.size + 1) (o := .cells Prt.zero.arr 47 (0, 0)) (by simp)) (p := Prt.zero)).2 W.heap.size (by omega)))
    obtain ⟨w5, hw5⟩ : ∃ w5, w5 = six w4 (W.heap.size + 1) Prt.zero := ⟨_, rfl⟩
    obtain ⟨k5, -⟩ := six_set (F4.out.at (k := W.heap.size + 1) (o := .cells Prt.zero.arr 47 (0, 0)) (by simp)) (p := Prt.zero)
    rw [← hw5] at k5 FIN BF
    unfold six Prt.zero at hw5
    dsimp only at hw5
    rw [← hw5]
    clear p0 p1 p2 p3 p4 p5
    obtain ⟨p0, p1, p2, p3, p4, p5⟩ := six_blk k5
    simp only [Nat.zero_add] at p0 p1 p2 p3 p4 p5
    rw [ES.out]
    exact bodyPost_ret (v := .tuple #[Prt.zero.val, .int .i64 1]) (by simp [results, Tryz.results28, go_sem, p0, p1, p2, p3, p4, p5, Prt.val]) rfl ⟨rfl, FIN.out, fun _ => BF.out⟩
  ·obtain ⟨j, rfl⟩ : ∃ j : Nat, cell = (j : Int) := ⟨cell.toNat, by omega⟩
   have ES : Hid (s.setp i g (cc : Int) (j : Int) value frame = s.put i g (setQ q j value frame)) := by show _ = _; unfold SD.setp; rw [HQF.out, if_pos rfl, GD.out, if_neg hcl, Int.toNat_natCast]
   have hn : ¬ (j : Int) < 0 := by omega
   have hlt : ¬ (wd : Int) ≤ (j : Int) := by omega
   have hj4 : j < 4 := by omega
   obtain ⟨r, f', s', hput⟩ : ∃ r f' s', s.put i g (setQ q j value frame) = (r, f', s') := ⟨_, _, _, rfl⟩
   obtain ⟨w5, hw5⟩ : ∃ w5, w5 = (w4.setCell ⟨b3, 1 + j, none⟩ (.int .i64 value)).setCell ⟨b3, 5, none⟩ (.int .i64 frame) := ⟨_, rfl⟩
   have s5 : St (fun k => k = b3) w4 w5 := by rw [hw5]; exact (St.setCell (S := fun k => k = b3) (p := ⟨b3, 1 + j, none⟩) _ rfl).trans (St.setCell (S := fun k => k = b3) (p := ⟨b3, 5, none⟩) _ rfl) fun _ _ q => q
   have k5 : w5.heap[b3]? = some (.cells (setQ q j value frame).arr 47 (0, 0)) := by
    rw [hw5, heap_setCell_same _ b3 5 _ _ _ (heap_setCell_same w4 b3 (1 + j) _ _ _ k3)]
    rcases (by omega : j = 0 ∨ j = 1 ∨ j = 2 ∨ j = 3) with rfl | rfl | rfl | rfl <;> rfl
   have F5 := hid (F4.out.set H.out.big s5 k5 (by simp; omega))
   have BE5 := hid (BE.out.trans (s5.below (B := W.heap.size) (fun k hk => by omega) BE.out.size))
   obtain ⟨x5, g5, hf5⟩ := F5.out.gs
   have PU := hid (put_any g5.sb i g (setQ q j value frame))
   rw [hput] at PU
   have G5 := hid g5
   have HF5 := hid hf5
   have HP := hid hput
   have ke := F5.out.at (k := W.heap.size) (o := .cells #[.int .i64 i, .int .i64 g] 43 (0, 0)) (by simp)
   have z0 := cell_blk (j := 0) ke rfl
   have z1 := cell_blk (j := 1) ke rfl
   obtain ⟨t0, t1, t2, t3, t4, t5⟩ := six_blk k5
   simp only [Nat.zero_add] at t0 t1 t2 t3 t4 t5
   have HW5 := hid hw5
   obtain ⟨zv, hzv⟩ : ∃ zv, w4.cell? ⟨b3, 1 + j, none⟩ = some (.int .i64 zv) := by
    rcases (by omega : j = 0 ∨ j = 1 ∨ j = 2 ∨ j = 3) with rfl | rfl | rfl | rfl
    ·exact ⟨_, d1⟩
    ·exact ⟨_, d2⟩
    ·exact ⟨_, d3⟩
    ·exact ⟨_, d4⟩
   have hj5 : ¬ (1 + j = 5) := by omega
   have hj5' : ¬ (5 = 1 + j) := by omega
   have hji : (j : Int) < 4 := by omega
   have hd5 : (w4.setCell ⟨b3, 1 + j, none⟩ (.int .i64 value)).cell? ⟨b3, 5, none⟩ = some (.int .i64 q.t) := by
    rw [World.cell?_setCell_other _ _ _ _ (by intro q; simp at q)]
    exact d5
   unfold Prt.val at PU
   simp only at PU
   clear hcl hput g5 hf5 s5 k5 ke hw5 hva
   go_upto_region 8 with fail
   rw [← HW5.out]
   clear HW5 hd5 hzv d0 d1 d2 d3 d4 d5 p0 p1 p2 p3 p4 p5 fr fr3 k3 kz c0 wc
   go_wp2_with fail
   refine PU.out.mono ?_
   rintro e w7 ⟨rfl, ⟨x7, g7⟩, h7⟩
   have F7 := hid (F5.out.turn G5.out HF5.out g7)
   have B7 : Hid (f' ≠ 0 → Below W.heap.size W w7) := fun q => BE5.out.trans ((h7 q).mono BE5.out.size)
   have kz := F7.out.at (k := W.heap.size + 1) (o := .cells Prt.zero.arr 47 (0, 0)) (by simp)
   obtain ⟨p0, p1, p2, p3, p4, p5⟩ := six_blk kz
   simp only [Nat.zero_add] at p0 p1 p2 p3 p4 p5
   have fr := fun j => blk_free kz j
   clear PU F5 G5 HF5 g7 z0 z1 t0 t1 t2 t3 t4 t5
   go_wp2_with fail
   have FIN := hid (F7.out.fin H.out.big (b := W.heap.size + 1) (o := .cells Prt.zero.arr 47 (0, 0)) (by simp) r)
   have BF : Hid (f' ≠ 0 → Below W.heap.size W (six w7 (W.heap.size + 1) r)) := fun q => (B7.out q).trans ((six_set kz (p := r)).2 W.heap.size (by omega))
   obtain ⟨w8, hw8⟩ : ∃ w8, w8 = six w7 (W.heap.size + 1) r := ⟨_, rfl⟩
   obtain ⟨k8, -⟩ := six_set kz (p := r)
   rw [← hw8] at k8 FIN BF
   unfold six at hw8
   rw [← hw8]
   clear p0 p1 p2 p3 p4 p5
   obtain ⟨p0, p1, p2, p3, p4, p5⟩ := six_blk k8
   simp only [Nat.zero_add] at p0 p1 p2 p3 p4 p5
   rw [ES.out, HP.out]
   exact bodyPost_ret (v := .tuple #[r.val, .int .i64 f']) (by simp [results, Tryz.results28, go_sem, p0, p1, p2, p3, p4, p5, Prt.val]) rfl ⟨rfl, FIN.out, BF.out⟩
 ·have hfb : (f == 0) = false := by simp [hf]
  have ES : Hid (s.setp i g comp cell value frame = (q, f, s)) := by show _ = _; unfold SD.setp; rw [HQF.out, if_neg hf]
  clear hf
  go_wp2_with fail
  have FIN := hid (F4.out.fin H.out.big (b := W.heap.size + 1) (o := .cells Prt.zero.arr 47 (0, 0)) (by simp) q)
  have BF := hid (BE.out.trans ((six_set (F4.out.at (k := W.heap.size + 1) (o := .cells Prt.zero.arr 47 (0, 0)) (by simp)) (p := q)).2 W.heap.size (by omega)))
  obtain ⟨w5, hw5⟩ : ∃ w5, w5 = six w4 (W.heap.size + 1) q := ⟨_, rfl⟩
  obtain ⟨k5, -⟩ := six_set (F4.out.at (k := W.heap.size + 1) (o := .cells Prt.zero.arr 47 (0, 0)) (by simp)) (p := q)
  rw [← hw5] at k5 FIN BF
  unfold six at hw5
  skip
  rw [← hw5]
  clear p0 p1 p2 p3 p4 p5
  obtain ⟨p0, p1, p2, p3, p4, p5⟩ := six_blk k5
  simp only [Nat.zero_add] at p0 p1 p2 p3 p4 p5
  rw [ES.out]
  exact bodyPost_ret (v := .tuple #[q.val, .int .i64 f]) (by simp [results, Tryz.results28, go_sem, p0, p1, p2, p3, p4, p5, Prt.val]) rfl ⟨rfl, FIN.out, fun _ => BF.out⟩
end Rs
end Go.Proofs.YtnlcbheidiigaaaGreatDoor
