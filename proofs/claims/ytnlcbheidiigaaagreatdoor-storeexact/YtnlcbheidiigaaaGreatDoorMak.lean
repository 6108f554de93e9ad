/- A part of StoreExact. -/
import Derived.Laws.IdiomCopy
import Derived.Shelf.SlGeneric
import Derived.Shelf.SlSortCmp.WholeK
import Derived.Ground.SlsfProg
import Derived.Test.YtnlcbheidiigaaaGreatDoorMaj
namespace Go.Proofs.YtnlcbheidiigaaaGreatDoor.So
open Go.RowKit Go.Shelf Go.Maps
open Co (Pt lies put6_blk put6_st put6)
open At (bAl cell_blk blk_seen)
open Rs (Prt)
section
variable {Ad : Nat → Addr} {W : World} {Q : World → Prop}
set_option maxHeartbeats 1600000 in
set_option maxRecDepth 100000 in
theorem put_tail {rv tp : Value} {i g cm : Int} {p : Prt} {u : Pt} {k : Nat} (hQ : Kept (W.heap.size + 2) Q) (hz : k = 0 ∨ (u = Pt.zero ∧ cm = 0))
  (HT : ∀ W', Below W.heap.size W W' → Calls Tryz.prog 76 #[rv, .agg #[.int .i64 i, .int .i64 g], .agg #[.int .i64 p.c, .int .i64 p.v0, .int .i64 p.v1, .int .i64 p.v2, .int .i64 p.v3, .int .i64 p.t]] W' fun e W2 => e = .returned (.tuple #[tp, .nilIface]) ∧ Below W'.heap.size W' W2)
  (HP : ∀ W', Below (xw W i g p).heap.size (xw W i g p) W' → Calls Tryz.prog 80 #[rv, .agg #[.int .i64 i, .int .i64 g], .int .i64 p.c, .func (.func 81) #[] #[.pointer (some ⟨W.heap.size + 1, 0, none⟩)]] W' fun e W2 => ∃ r, e = .returned (.tuple #[u.val cm, r]) ∧ Er Ad W2 r k 2 ∧ Q W2 ∧ W2.heap[W.heap.size + 2]? = some (.cells (Pt.zero.arr 0) 47 (0, 0))) :
  Calls Tryz.prog 25 #[rv, .agg #[.int .i64 i, .int .i64 g], .agg #[.int .i64 p.c, .int .i64 p.v0, .int .i64 p.v1, .int .i64 p.v2, .int .i64 p.v3, .int .i64 p.t]] W fun e W' => ∃ r, e = .returned (.tuple #[u.val cm, r]) ∧ Er Ad W' r k ∧ Q W' := by
 obtain ⟨b1, r1, p1, q1, z1⟩ := xw_facts W i g p
 obtain ⟨w1, hw1⟩ : ∃ w1, w1 = xw W i g p := ⟨_, rfl⟩
 rw [← hw1] at b1 r1 p1 z1 q1 HP
 have d0 := cell_blk r1 (j := 0) rfl
 have d1 := cell_blk r1 (j := 1) rfl
 have y0 : w1.cell? ⟨W.heap.size + 1, 0, none⟩ = some (.int .i64 p.c) := cell_blk p1 rfl
 have y1 : w1.cell? ⟨W.heap.size + 1, 1, none⟩ = some (.int .i64 p.v0) := cell_blk p1 rfl
 have y2 : w1.cell? ⟨W.heap.size + 1, 2, none⟩ = some (.int .i64 p.v1) := cell_blk p1 rfl
 have y3 : w1.cell? ⟨W.heap.size + 1, 3, none⟩ = some (.int .i64 p.v2) := cell_blk p1 rfl
 have y4 : w1.cell? ⟨W.heap.size + 1, 4, none⟩ = some (.int .i64 p.v3) := cell_blk p1 rfl
 have y5 : w1.cell? ⟨W.heap.size + 1, 5, none⟩ = some (.int .i64 p.t) := cell_blk p1 rfl
 have FD := hid (HT w1 b1)
 have HPP := hid HP
 have HW1 := hid hw1
 have R1 := hid r1
 have P1 := hid p1
 have HQ := hid hQ
 have HZ := hid hz
 unfold xw ew at HW1
 unfold Pt.val at HPP ⊢
 clear hw1 b1 r1 p1 HP HT hQ hz z1 q1
 go_enter Tryz.func25, Tryz.ntmps25
 go_upto_region 1 with fail
 rw [← HW1.out]
 go_wp2_with fail
 refine FD.out.mono ?_
 rintro e w0 ⟨rfl, hb⟩
 have PC := hid (HPP.out w0 hb)
 have r0 := blk_seen hb (Nat.le_refl _) R1.out
 have p0 := blk_seen hb (Nat.le_refl _) P1.out
 have t0 := cell_blk r0 (j := 0) rfl
 have t1 := cell_blk r0 (j := 1) rfl
 have s0 : w0.cell? ⟨W.heap.size + 1, 0, none⟩ = some (.int .i64 p.c) := cell_blk p0 rfl
 clear y0 y1 y2 y3 y4 y5 d0 d1 hb HPP FD r0 p0
 go_wp2_with fail
 refine PC.out.mono ?_
 rintro e w2 ⟨r, rfl, hr, hq, hp⟩
 obtain ⟨w3, hw3⟩ : ∃ w3, w3 = w2.alloc (.cells #[.int .i64 cm, .int .i64 u.a, .int .i64 u.b, .int .i64 u.c, .int .i64 u.d, .int .i64 u.t] 47) := ⟨_, rfl⟩
 have b3 : Below w2.heap.size w2 w3 := by rw [hw3]; exact bAl _ _
 have v3 : w3.heap[w2.heap.size]? = some (.cells (u.arr cm) 47 (0, 0)) := by rw [hw3]; exact heap_alloc_new w2 _
 have HW3 := hid hw3
 have R3 := hid (hr.later b3)
 have Q3 := hid (HQ.out.later _ _ hq b3)
 have P3 := hid (blk_seen b3 (Nat.le_refl _) hp)
 have V3 := hid v3
 have hne : W.heap.size + 2 < w2.heap.size := (Array.getElem?_eq_some_iff.1 hp).1
 have KK : Hid (∀ W', Below w3.heap.size w3 W' → W'.cell? ⟨w2.heap.size, 0, none⟩ = some (.int .i64 cm) ∧ W'.cell? ⟨w2.heap.size, 1, none⟩ = some (.int .i64 u.a) ∧ W'.cell? ⟨w2.heap.size, 2, none⟩ = some (.int .i64 u.b) ∧ W'.cell? ⟨w2.heap.size, 3, none⟩ = some (.int .i64 u.c) ∧ W'.cell? ⟨w2.heap.size, 4, none⟩ = some (.int .i64 u.d) ∧ W'.cell? ⟨w2.heap.size, 5, none⟩ = some (.int .i64 u.t)) := fun W' hb => by
  have q := blk_seen hb (Nat.le_refl _) V3.out
  exact ⟨cell_blk q rfl, cell_blk q rfl, cell_blk q rfl, cell_blk q rfl, cell_blk q rfl, cell_blk q rfl⟩
 have AC : Hid (∀ str W', Below w3.heap.size w3 W' → Calls Tryz.prog 63 #[.string str, r] W' fun e w' => ∃ v', e = .returned v' ∧ Er Ad w' v' k ∧ Below w3.heap.size w3 w') := fun str W' hb => (at_er Ad str r k W' (m := 9) (R3.out.later hb)).mono fun e w' ⟨v', q1, q2, q3⟩ => ⟨v', q1, q2, hb.trans (q3.mono hb.size)⟩
 clear hr hq hp b3 v3 hw3 PC
 go_upto_region 5 with fail
 rw [← HW3.out]
 go_region_held3 (fun W' => W'.cell? ⟨w2.heap.size, 0, none⟩ = some (.int .i64 cm) ∧ W'.cell? ⟨w2.heap.size, 1, none⟩ = some (.int .i64 u.a) ∧ W'.cell? ⟨w2.heap.size, 2, none⟩ = some (.int .i64 u.b) ∧ W'.cell? ⟨w2.heap.size, 3, none⟩ = some (.int .i64 u.c) ∧ W'.cell? ⟨w2.heap.size, 4, none⟩ = some (.int .i64 u.d) ∧ W'.cell? ⟨w2.heap.size, 5, none⟩ = some (.int .i64 u.t))
  (first | ((conv in (World.setCell _ _ _) => skip); exact K5.out) | exact KK.out _ B4.out | exact KK.out _ (Below.refl _ _).drew | exact KK.out _ (Below.refl _ _))
  ((go_at_call 63; refine (AC.out _ _ (by first | exact (Below.refl _ _).drew | exact Below.refl _ _)).mono ?_; rintro e w4 ⟨r4, rfl, hr4, hb4⟩; have B4 := hid hb4; have R4 := hid hr4; have P4 := hid (blk_seen hb4 (Nat.le_refl _) P3.out); obtain ⟨x0, x1, x2, x3, x4, x5, f0, f1, f2, f3, f4, f5⟩ := lies P4.out; have PS := hid (st_co (put6_st w4 (W.heap.size + 2) cm u)); have K5 := hid (keep6 (KK.out _ hb4) PS.out (by omega)); unfold put6 at PS K5; clear hr4 hb4))
 have RN := hid (er_put P4.out HZ.out R4.out)
 have PB := put6_blk P4.out rfl cm u
 have QN := hid (HQ.out.st _ _ (HQ.out.later _ _ Q3.out B4.out) (st_co (put6_st w4 (W.heap.size + 2) cm u)))
 unfold put6 at PB RN QN
 obtain ⟨d0, d1, d2, d3, d4, d5, -, -, -, -, -, -⟩ := lies PB
 clear K5 KK AC PS x0 x1 x2 x3 x4 x5 f0 f1 f2 f3 f4 f5
 generalize (((((w4.setCell ⟨W.heap.size + 2, 0, none⟩ (.int .i64 cm)).setCell ⟨W.heap.size + 2, 1, none⟩ (.int .i64 u.a)).setCell ⟨W.heap.size + 2, 2, none⟩ (.int .i64 u.b)).setCell ⟨W.heap.size + 2, 3, none⟩ (.int .i64 u.c)).setCell ⟨W.heap.size + 2, 4, none⟩ (.int .i64 u.d)).setCell ⟨W.heap.size + 2, 5, none⟩ (.int .i64 u.t) = w5 at *
 go_wp2_with fail
 exact bodyPost_ret (v := .tuple #[.agg #[.int .i64 cm, .int .i64 u.a, .int .i64 u.b, .int .i64 u.c, .int .i64 u.d, .int .i64 u.t], r4]) (by simp [results, Tryz.results25, go_sem, d0, d1, d2, d3, d4, d5]) rfl ⟨_, rfl, RN.out, QN.out⟩
set_option maxHeartbeats 1600000 in
set_option maxRecDepth 100000 in
theorem set_tail {rv : Value} {i g comp cell value frame cm : Int} {u : Pt} {k : Nat} (hQ : Kept (W.heap.size + 4) Q) (hz : k = 0 ∨ (u = Pt.zero ∧ cm = 0))
  (HP : Calls Tryz.prog 80 #[rv, .agg #[.int .i64 i, .int .i64 g], .int .i64 comp, .func (.func 83) #[] #[.pointer (some ⟨W.heap.size + 1, 0, none⟩), .pointer (some ⟨W.heap.size + 2, 0, none⟩), .pointer (some ⟨W.heap.size + 3, 0, none⟩)]] (sw W i g cell value frame) fun e W2 => ∃ r, e = .returned (.tuple #[u.val cm, r]) ∧ Er Ad W2 r k 2 ∧ Q W2 ∧ W2.heap[W.heap.size + 4]? = some (.cells (Pt.zero.arr 0) 47 (0, 0))) :
  Calls Tryz.prog 27 #[rv, .agg #[.int .i64 i, .int .i64 g], .int .i64 comp, .int .i64 cell, .int .i64 value, .int .i64 frame] W fun e W' => ∃ r, e = .returned (.tuple #[u.val cm, r]) ∧ Er Ad W' r k ∧ Q W' := by
 obtain ⟨b1, r1, -, -, -, -, -⟩ := sw_facts W i g cell value frame
 obtain ⟨w1, hw1⟩ : ∃ w1, w1 = sw W i g cell value frame := ⟨_, rfl⟩
 rw [← hw1] at b1 r1 HP
 have d0 := cell_blk r1 (j := 0) rfl
 have d1 := cell_blk r1 (j := 1) rfl
 have PC := hid HP
 have HW1 := hid hw1
 have HQ := hid hQ
 have HZ := hid hz
 unfold sw at HW1
 unfold Pt.val at PC ⊢
 clear hw1 b1 r1 HP hQ hz
 go_enter Tryz.func27, Tryz.ntmps27
 go_upto_region 1 with fail
 rw [← HW1.out]
 go_wp2_with fail
 refine PC.out.mono ?_
 rintro e w2 ⟨r, rfl, hr, hq, hp⟩
 obtain ⟨w3, hw3⟩ : ∃ w3, w3 = w2.alloc (.cells #[.int .i64 cm, .int .i64 u.a, .int .i64 u.b, .int .i64 u.c, .int .i64 u.d, .int .i64 u.t] 47) := ⟨_, rfl⟩
 have b3 : Below w2.heap.size w2 w3 := by rw [hw3]; exact bAl _ _
 have v3 : w3.heap[w2.heap.size]? = some (.cells (u.arr cm) 47 (0, 0)) := by rw [hw3]; exact heap_alloc_new w2 _
 have HW3 := hid hw3
 have R3 := hid (hr.later b3)
 have Q3 := hid (HQ.out.later _ _ hq b3)
 have P3 := hid (blk_seen b3 (Nat.le_refl _) hp)
 have V3 := hid v3
 have hne : W.heap.size + 4 < w2.heap.size := (Array.getElem?_eq_some_iff.1 hp).1
 have KK : Hid (∀ W', Below w3.heap.size w3 W' → W'.cell? ⟨w2.heap.size, 0, none⟩ = some (.int .i64 cm) ∧ W'.cell? ⟨w2.heap.size, 1, none⟩ = some (.int .i64 u.a) ∧ W'.cell? ⟨w2.heap.size, 2, none⟩ = some (.int .i64 u.b) ∧ W'.cell? ⟨w2.heap.size, 3, none⟩ = some (.int .i64 u.c) ∧ W'.cell? ⟨w2.heap.size, 4, none⟩ = some (.int .i64 u.d) ∧ W'.cell? ⟨w2.heap.size, 5, none⟩ = some (.int .i64 u.t)) := fun W' hb => by
  have q := blk_seen hb (Nat.le_refl _) V3.out
  exact ⟨cell_blk q rfl, cell_blk q rfl, cell_blk q rfl, cell_blk q rfl, cell_blk q rfl, cell_blk q rfl⟩
 have AC : Hid (∀ str W', Below w3.heap.size w3 W' → Calls Tryz.prog 63 #[.string str, r] W' fun e w' => ∃ v', e = .returned v' ∧ Er Ad w' v' k ∧ Below w3.heap.size w3 w') := fun str W' hb => (at_er Ad str r k W' (m := 9) (R3.out.later hb)).mono fun e w' ⟨v', q1, q2, q3⟩ => ⟨v', q1, q2, hb.trans (q3.mono hb.size)⟩
 clear hr hq hp b3 v3 hw3 PC
 go_upto_region 2 with fail
 rw [← HW3.out]
 go_region_held3 (fun W' => W'.cell? ⟨w2.heap.size, 0, none⟩ = some (.int .i64 cm) ∧ W'.cell? ⟨w2.heap.size, 1, none⟩ = some (.int .i64 u.a) ∧ W'.cell? ⟨w2.heap.size, 2, none⟩ = some (.int .i64 u.b) ∧ W'.cell? ⟨w2.heap.size, 3, none⟩ = some (.int .i64 u.c) ∧ W'.cell? ⟨w2.heap.size, 4, none⟩ = some (.int .i64 u.d) ∧ W'.cell? ⟨w2.heap.size, 5, none⟩ = some (.int .i64 u.t))
  (first | ((conv in (World.setCell _ _ _) => skip); exact K5.out) | exact KK.out _ B4.out | exact KK.out _ (Below.refl _ _).drew | exact KK.out _ (Below.refl _ _))
  ((go_at_call 63; refine (AC.out _ _ (by first | exact (Below.refl _ _).drew | exact Below.refl _ _)).mono ?_; rintro e w4 ⟨r4, rfl, hr4, hb4⟩; have B4 := hid hb4; have R4 := hid hr4; have P4 := hid (blk_seen hb4 (Nat.le_refl _) P3.out); obtain ⟨x0, x1, x2, x3, x4, x5, f0, f1, f2, f3, f4, f5⟩ := lies P4.out; have PS := hid (st_co (put6_st w4 (W.heap.size + 4) cm u)); have K5 := hid (keep6 (KK.out _ hb4) PS.out (by omega)); unfold put6 at PS K5; clear hr4 hb4))
 have RN := hid (er_put P4.out HZ.out R4.out)
 have PB := put6_blk P4.out rfl cm u
 have QN := hid (HQ.out.st _ _ (HQ.out.later _ _ Q3.out B4.out) (st_co (put6_st w4 (W.heap.size + 4) cm u)))
 unfold put6 at PB RN QN
 obtain ⟨d0, d1, d2, d3, d4, d5, -, -, -, -, -, -⟩ := lies PB
 clear K5 KK AC PS x0 x1 x2 x3 x4 x5 f0 f1 f2 f3 f4 f5
 generalize (((((w4.setCell ⟨W.heap.size + 4, 0, none⟩ (.int .i64 cm)).setCell ⟨W.heap.size + 4, 1, none⟩ (.int .i64 u.a)).setCell ⟨W.heap.size + 4, 2, none⟩ (.int .i64 u.b)).setCell ⟨W.heap.size + 4, 3, none⟩ (.int .i64 u.c)).setCell ⟨W.heap.size + 4, 4, none⟩ (.int .i64 u.d)).setCell ⟨W.heap.size + 4, 5, none⟩ (.int .i64 u.t) = w5 at *
 go_wp2_with fail
 exact bodyPost_ret (v := .tuple #[.agg #[.int .i64 cm, .int .i64 u.a, .int .i64 u.b, .int .i64 u.c, .int .i64 u.d, .int .i64 u.t], r4]) (by simp [results, Tryz.results27, go_sem, d0, d1, d2, d3, d4, d5]) rfl ⟨_, rfl, RN.out, QN.out⟩
end
end Go.Proofs.YtnlcbheidiigaaaGreatDoor.So
namespace Go.Proofs.YtnlcbheidiigaaaGreatDoor.So
open Go.RowKit Go.Shelf Go.Maps
open Co (I64 Col)
open At (St)
open Rs (Prt SD mskP fitP insP insP_rec mem_insr remP remP_no)
def putP (l : List Prt) (p : Prt) : List Prt := insP (remP l p.c) p
theorem mem_putP {l : List Prt} {p x : Prt} : x ∈ putP l p ↔ x = p ∨ (x ∈ l ∧ x.c ≠ p.c) := by
 unfold putP
 rw [insP_rec, mem_insr, remP, List.mem_filter]
 simp
theorem okE_rem {ws : List Nat} {l : List Prt} (h : okE ws l) (comp : Int) : okE ws (remP l comp) := ⟨h.1.rem comp, fun x hx => h.2 x (List.mem_filter.1 hx).1⟩
theorem okE_put {ws : List Nat} {l : List Prt} {p : Prt} (h : okE ws l) (hf : fitP ws p = true) (ht : I64 p.t) : okE ws (putP l p) := okE_ins (okE_rem h p.c) hf ht (remP_no l p.c)
theorem msk_putP {ws : List Nat} {l : List Prt} {p q : Prt} (h : okE ws l) (hf : fitP ws p = true) (ht : I64 p.t) (hq : q ∈ l) (hc : q.c = p.c) : mskP (putP l p) = mskP l := by
 refine eq_bits fun i => Bool.eq_iff_iff.2 ?_
 rw [msk_mem (okL_pos (okE_put h hf ht).1), msk_mem (okL_pos h.1)]
 constructor
 ·rintro ⟨x, hx, e⟩
  rcases mem_putP.1 hx with rfl | ⟨hx, -⟩
  ·exact ⟨q, hq, hc.trans e⟩
  ·exact ⟨x, hx, e⟩
 ·rintro ⟨x, hx, e⟩
  by_cases k : x.c = p.c
  ·exact ⟨p, mem_putP.2 (.inl rfl), k ▸ e⟩
  ·exact ⟨x, mem_putP.2 (.inr ⟨hx, k⟩), e⟩
theorem ptAt_put {ws : List Nat} {l : List Prt} {p : Prt} (h : okE ws l) (hf : fitP ws p = true) (ht : I64 p.t) {cc : Nat} (hc : p.c = (cc : Int)) (q : Nat) : ptAt (putP l p) q = if q = cc then pt p else ptAt l q := by
 have ho := okE_put h hf ht
 by_cases e : q = cc
 ·rw [if_pos e, ptAt_mem (okL_apart ho.1) (mem_putP.2 (.inl rfl)) (by rw [hc, e])]
 ·rw [if_neg e]
  by_cases k : ∃ x ∈ l, x.c = (q : Int)
  ·obtain ⟨x, hx, ex⟩ := k
   rw [ptAt_mem (okL_apart ho.1) (mem_putP.2 (.inr ⟨hx, by omega⟩)) ex, ptAt_mem (okL_apart h.1) hx ex]
  ·unfold ptAt
   rw [find_none (l := l) fun x hx ex => k ⟨x, hx, ex⟩, find_none fun x hx ex => ?_]
   rcases mem_putP.1 hx with rfl | ⟨hx, -⟩
   ·omega
   ·exact k ⟨x, hx, ex⟩
section
variable {B : Nat} {W W' : World} {sb : Nat} {c : CV} {s : SD} {i g n j m : Nat} {own : List (Nat × Nat)} {y : Nat × Nat}
theorem Sto.turn (h : Sto none B W sb c s) (A : At1 c s i g n j m own y) (hi : i < s.p.length) {p : Prt} (hf : fitP s.ws p = true) (ht : I64 p.t) {q : Prt} (hq : q ∈ s.at i) (hqc : q.c = p.c) {cc w : Nat} (hc : p.c = (cc : Int)) (hw : s.ws[cc]? = some w)
  (hcol : Col B W' ((c.tv n).cb cc) ⟨(cc : Int), w, (rowsOf s own cc).set j (pt p)⟩ (fun k => c.f k = (5, n, cc))) (hs : St (fun k => c.f k = (5, n, cc)) W W') :
  ∃ c', Sto none B W' sb c' (rowed s i (putP (s.at i) p)) ∧ c'.t = c.t ∧ c'.f = c.f ∧ Gw c c' W W' := by
 have X := h.out A.tab A.set
 have T := X.tb.colsame hw hcol hs
 obtain ⟨X1, G1⟩ := X.retab (f' := c.f) (ov' := (c.tv n).ov) T (Rec.refl _ _ (fun k hk => (h.lt k hk).2) hs.size) ⟨hs.os, hs.tape, hs.output, hs.size, fun k hk hn => hs.block k hk fun q => hn (.inr ⟨cc, q⟩)⟩
 have hme : ∀ e : Nat × Nat, e ∈ own → ∀ k, own[k]? = some e → e.1 = i → k = j := fun e _ k hk ei => by
  obtain ⟨a, b⟩ := e
  change a = i at ei
  subst ei
  exact (h.lk.one A.tab A.tab hk A.here).2
 have hat : ∀ (k q : Nat), q ≠ cc → ptAt ((rowed s i (putP (s.at i) p)).at k) q = ptAt (s.at k) q := fun k q hne => by
  by_cases e : k = i
  ·rw [e, at_rowed _ hi, ptAt_put A.ok hf ht hc, if_neg hne]
  ·rw [at_rowed_other _ e]
 have hlk : Lk none (tput c.tab n (some own)) c.seat (rowed s i (putP (s.at i) p)) := by
  have e : tput c.tab n (some own) = c.tab := by
   funext k
   unfold tput
   by_cases e : k = n
   ·rw [if_pos e, e, A.tab]
   ·rw [if_neg e]
  rw [e]
  exact h.lk.put hi (msk_putP A.ok hf ht hq hqc) (okE_put A.ok hf ht)
 refine ⟨_, X1.back (W' := W') (s' := rowed s i (putP (s.at i) p)) (seat' := c.seat) X1.seats (St.of_below (Below.refl _ _)) rfl rfl rfl rfl (by show (s.p.set i _).length = 64; rw [List.length_set]; exact h.n2) hlk (fun q hq => ?_) (fun n' own' hne hn' q => ?_), rfl, rfl, ⟨G1.st, G1.new⟩⟩
 ·by_cases e : q = cc
  ·rw [if_pos e, e]
   unfold rowsOf
   refine List.ext_getElem? fun k => ?_
   rw [List.getElem?_map, List.getElem?_set, List.length_map, List.getElem?_map]
   by_cases ek : j = k
   ·subst ek
    have hj := (List.getElem?_eq_some_iff.1 A.here).1
    rw [if_pos rfl, if_pos hj, A.here, Option.map_some, at_rowed _ hi, ptAt_put A.ok hf ht hc, if_pos rfl]
   ·rw [if_neg ek]
    cases ho : own[k]? with
    | none => rfl
    | some e =>
     rw [Option.map_some, Option.map_some, at_rowed_other _ fun q => ek (hme e (List.mem_of_getElem? ho) k ho q).symm]
  ·rw [if_neg e]
   exact List.map_congr_left fun a _ => hat _ _ e
 ·refine List.map_congr_left fun a ha => ?_
  obtain ⟨k, hk⟩ := List.getElem?_of_mem ha
  rw [at_rowed_other _ fun e => hne ?_]
  obtain ⟨a1, a2⟩ := a
  change a1 = i at e
  subst e
  exact (h.lk.one hn' A.tab hk A.here).1
end
end Go.Proofs.YtnlcbheidiigaaaGreatDoor.So
namespace Go.Proofs.YtnlcbheidiigaaaGreatDoor.So
open Go.RowKit Go.Shelf Go.Maps
open Co (I64 Pt Col I64_mid)
open At (St cell_blk blk_seen)
open Rs (Prt SD fitP)
theorem enters_put1 : ∀ args w, (callFunc 81 args).run Tryz.prog w = .ok (.enter 81 args) w := enters_of Tryz.func81 (by kernel_rfl) rfl
theorem enters_set1 : ∀ args w, (callFunc 83 args).run Tryz.prog w = .ok (.enter 83 args) w := enters_of Tryz.func83 (by kernel_rfl) rfl
def Tn (B : Nat) (W : World) (sb : Nat) (c : CV) (s' : SD) (w : World) : Prop := ∃ c', Sto none B w sb c' s' ∧ c'.t = c.t ∧ c'.f = c.f ∧ Gw c c' W w
theorem Tn.later {B : Nat} {W w w' : World} {sb : Nat} {c : CV} {s' : SD} (h : Tn B W sb c s' w) (hb : Below w.heap.size w w') : Tn B W sb c s' w' := by
 obtain ⟨c', e1, e2, e3, e4⟩ := h
 exact ⟨c', e1.later hb, e2, e3, e4.trans (Gw.of_below hb)⟩
theorem Tn.st {B : Nat} {W w w' : World} {sb : Nat} {c : CV} {s' : SD} (h : Tn B W sb c s' w) (hlt : ∀ k, c.f k ≠ (0, 0, 0) → k < W.heap.size) {RB : Nat} (hR : W.heap.size ≤ RB) (hs : St (fun k => k = RB) w w') : Tn B W sb c s' w' := by
 obtain ⟨c', e1, e2, e3, e4⟩ := h
 refine ⟨c', e1.keep hs fun k hk e => ?_, e2, e3, ⟨e4.st.trans hs fun k hk e => ?_, e4.new⟩⟩
 ·rw [e3] at hk; have := hlt k hk; omega
 ·omega
theorem Tn.kept {B : Nat} {W : World} {sb : Nat} {c : CV} {s' : SD} (hlt : ∀ k, c.f k ≠ (0, 0, 0) → k < W.heap.size) {RB : Nat} (hR : W.heap.size ≤ RB) : Kept RB (Tn B W sb c s') := ⟨fun _ _ h hb => h.later hb, fun _ _ h hs => h.st hlt hR hs⟩
theorem Sto.room {ex : Option Nat} {B : Nat} {W : World} {sb : Nat} {c : CV} {s : SD} (h : Sto ex B W sb c s) {i g : Nat} (ha : al s i g) : i < s.p.length := by
 have := al_lt ha
 have := h.rol.small
 rw [h.n2]; omega
section
variable {Ad : Nat → Addr} {B : Nat} {W : World} {sb : Nat} {c : CV} {s : SD} {i g : Nat}
theorem Sto.turned (h : Sto none B W sb c s) {n j m : Nat} {own : List (Nat × Nat)} {y : Nat × Nat} (A : At1 c s i g n j m own y) (ha : al s i g) {p q : Prt} (hf : fitP s.ws p = true) (ht : I64 p.t) (hq : q ∈ s.at i) (hqc : q.c = p.c) {cc w : Nat} (hc : p.c = (cc : Int)) (hw : s.ws[cc]? = some w) {W0 W2 W3 : World} (hb : Below W.heap.size W W2)
  (hcol : Col B W3 ((c.tv n).cb cc) ⟨(cc : Int), w, (rowsOf s own cc).set j (pt p)⟩ (fun k => c.f k = (5, n, cc))) (hs : Co.St (fun k => c.f k = (5, n, cc)) W2 W3) (h0 : W.heap.size ≤ W0.heap.size) {zb : Nat} (hz : W.heap.size ≤ zb) {o : Obj} (hzo : W2.heap[zb]? = some o) :
  (Tn B W sb c (rowed s i (putP (s.at i) p)) W3 ∧ W3.heap[zb]? = some o) ∧ St (fun k => k < W0.heap.size) W2 W3 := by
 have hs' := st_co hs
 have hlt : ∀ k, c.f k = (5, n, cc) → k < W.heap.size := fun k hk => (h.lt k (by rw [hk]; simp)).2
 obtain ⟨c', e1, e2, e3, e4⟩ := (h.later hb).turn A (h.room ha) hf ht hq hqc hc hw hcol hs'
 refine ⟨⟨⟨c', e1, e2, e3, (Gw.of_below hb).trans e4⟩, hs'.at hzo fun k => ?_⟩, ⟨hs'.os, hs'.tape, hs'.output, hs'.size, fun k hk hn => hs'.block k hk fun q => hn ?_⟩⟩
 ·have := hlt _ k; omega
 ·have := hlt _ q; omega
theorem put_ok (h : Sto none B W sb c s) (hE : Env8 W Ad) (ha : al s i g) (p q : Prt) (hf : fitP s.ws p = true) (ht : I64 p.t) (hq : q ∈ s.at i) (hqc : q.c = p.c) :
  Calls Tryz.prog 25 #[.pointer (some ⟨sb, 0, none⟩), .agg #[.int .i64 (i : Int), .int .i64 (g : Int)], p.val] W fun e W' => e = .returned (.tuple #[q.val, .nilIface]) ∧ Tn B W sb c (rowed s i (putP (s.at i) p)) W' := by
 obtain ⟨b1, r1, p1, z1, sz⟩ := xw_facts W (i : Int) (g : Int) p
 obtain ⟨n, j, m, own, y, A⟩ := h.stands ha (by simp)
 obtain ⟨cc, hcc⟩ : ∃ cc : Nat, q.c = (cc : Int) := ⟨q.c.toNat, by have := okL_pos A.ok.1 q hq; omega⟩
 have hpc : p.c = (cc : Int) := hqc ▸ hcc
 have hc16 : cc < 16 := by have := (A.ok.1.2 q hq).2; have := h.okw.1; omega
 have hbit := has_bit A.msk A.ok.1 hq hcc
 have hlt : ∀ k, c.f k ≠ (0, 0, 0) → k < W.heap.size := fun k hk => (h.lt k hk).2
 refine Calls.mono (put_tail (Ad := Ad) (W := W) (tp := .pointer (some ⟨(c.tv n).tb, 0, none⟩)) (i := (i : Int)) (g := (g : Int)) (p := p) (cm := (cc : Int)) (u := pt q) (k := 0) (Tn.kept (B := B) (sb := sb) (c := c) (s' := rowed s i (putP (s.at i) p)) hlt (by omega)) (.inl rfl) (fun W' hb => ?_) fun W' hb => ?_) ?_
 ·refine (tableFor_some (h.later hb) (hE.later hb) ha A p).mono ?_
  rintro e W2 ⟨r, rfl, e1, e2⟩
  rw [hf] at e1 ⊢
  obtain rfl := Er.zero e1
  exact ⟨rfl, e2⟩
 ·have bW := b1.trans (hb.mono b1.size)
  have hz1 : W.heap.size + 3 ≤ W'.heap.size := by have := hb.size; omega
  rw [hpc]
  refine (part_ok (h.later bW) ha A cc hc16 hbit 81 #[.pointer (some ⟨W.heap.size + 1, 0, none⟩)] enters_put1 (pt q) (fun w => Tn B W sb c (rowed s i (putP (s.at i) p)) w ∧ w.heap[W.heap.size + 2]? = some (.cells (Pt.zero.arr 0) 47 (0, 0))) (fun w w' e hs => ⟨e.1.st hlt (by omega) hs, hs.at e.2 (by omega)⟩) fun W2 hb2 _ => ?_).mono ?_
  ·have b2 := bW.trans (hb2.mono bW.size)
   obtain ⟨w, hw, hcol⟩ := ((h.later b2).tabOf A).col cc hbit
   have hfit : (pt p).fitB w = true := by rw [Rs.fit_in hpc hw] at hf; exact hf
   refine (put1_any hcol j (pt q) (row_here A.here A.ok.1 hq hcc) (pt p) hfit ht (W.heap.size + 1) ?_).mono ?_
   ·have := blk_seen hb2 (Nat.le_refl _) (blk_seen hb (Nat.le_refl _) p1)
    rw [this]
    show some (Obj.cells p.arr _ _) = some (Obj.cells ((pt p).arr (cc : Int)) _ _)
    rw [← hpc]
    rfl
   ·rintro e W3 ⟨rfl, e1, e2⟩
    exact ⟨rfl, h.turned A ha hf ht hq hqc hpc hw b2 e1 e2 bW.size (by omega) (blk_seen hb2 (Nat.le_refl _) (blk_seen hb (Nat.le_refl _) z1))⟩
  ·rintro e w ⟨rfl, e1, e2⟩
   exact ⟨_, rfl, Er.none _ w, e1, e2⟩
 ·rintro e w ⟨r, rfl, e1, e2⟩
  obtain rfl := Er.zero e1
  refine ⟨?_, e2⟩
  rw [pt_val, hcc]
theorem put_none (h : Sto none B W sb c s) (hE : Env8 W Ad) (ha : al s i g) (p : Prt) (hf : fitP s.ws p = true) (hno : ∀ q ∈ s.at i, q.c ≠ p.c) :
  Calls Tryz.prog 25 #[.pointer (some ⟨sb, 0, none⟩), .agg #[.int .i64 (i : Int), .int .i64 (g : Int)], p.val] W fun e W' => ∃ r, e = .returned (.tuple #[Pt.zero.val 0, r]) ∧ Er Ad W' r 7 ∧ Below W.heap.size W W' := by
 obtain ⟨b1, r1, p1, z1, sz⟩ := xw_facts W (i : Int) (g : Int) p
 obtain ⟨n, j, m, own, y, A⟩ := h.stands ha (by simp)
 have hpc : I64 p.c := by have := Rs.fit_range hf; have := h.okw.1; exact I64_mid (by omega) (by omega)
 refine put_tail (Ad := Ad) (W := W) (tp := .pointer (some ⟨(c.tv n).tb, 0, none⟩)) (kept_below W _ (by omega)) (.inr ⟨rfl, rfl⟩) (fun W' hb => ?_) fun W' hb => ?_
 ·refine (tableFor_some (h.later hb) (hE.later hb) ha A p).mono ?_
  rintro e W2 ⟨r, rfl, e1, e2⟩
  rw [hf] at e1 ⊢
  obtain rfl := Er.zero e1
  exact ⟨rfl, e2⟩
 ·have bW := b1.trans (hb.mono b1.size)
  refine (part_none (h.later bW) (hE.later bW) ha A p.c hpc (no_bit A.msk A.ok.1 hno _) _).mono ?_
  rintro e w ⟨rfl, hb2⟩
  exact ⟨_, rfl, Er.leaf Ad w 7 (by omega), bW.trans (hb2.mono bW.size), blk_seen hb2 (Nat.le_refl _) (blk_seen hb (Nat.le_refl _) z1)⟩
theorem put_bad (h : Sto none B W sb c s) (hE : Env8 W Ad) (ha : al s i g) (p : Prt) (hf : fitP s.ws p = false) :
  Calls Tryz.prog 25 #[.pointer (some ⟨sb, 0, none⟩), .agg #[.int .i64 (i : Int), .int .i64 (g : Int)], p.val] W fun e W' => ∃ r, e = .returned (.tuple #[Pt.zero.val 0, r]) ∧ Er Ad W' r 1 ∧ Below W.heap.size W W' := by
 obtain ⟨n, j, m, own, y, A⟩ := h.stands ha (by simp)
 refine put_err (by omega) fun W' hb => ?_
 refine (tableFor_some (h.later hb) (hE.later hb) ha A p).mono ?_
 rintro e W2 ⟨r, rfl, e1, e2⟩
 rw [hf] at e1 ⊢
 exact ⟨r, rfl, e1, e2⟩
theorem put_out {rv : Value} {i g : Int} {k : Nat} (h : NoFind Ad W rv i g k) (hk : 1 ≤ k ∧ k ≤ 18) (p : Prt) :
  Calls Tryz.prog 25 #[rv, .agg #[.int .i64 i, .int .i64 g], p.val] W fun e W' => ∃ r, e = .returned (.tuple #[Pt.zero.val 0, r]) ∧ Er Ad W' r k ∧ Below W.heap.size W W' :=
 put_err (by omega) fun _ hb => tableFor_err (h.later hb) hk p
end
def setQ (q : Prt) (j : Nat) (x f : Int) : Prt := ⟨q.c, ((pt q).put j x f).a, ((pt q).put j x f).b, ((pt q).put j x f).c, ((pt q).put j x f).d, ((pt q).put j x f).t⟩
theorem put_t (p : Pt) (j : Nat) (x f : Int) : (p.put j x f).t = f := by
 unfold Pt.put
 split <;> rfl
section
variable {Ad : Nat → Addr} {B : Nat} {W : World} {sb : Nat} {c : CV} {s : SD} {i g : Nat}
theorem set_ok (h : Sto none B W sb c s) (ha : al s i g) (q : Prt) (hq : q ∈ s.at i) {cc w : Nat} (hcc : q.c = (cc : Int)) (hw : s.ws[cc]? = some w) (j' : Nat) (hj' : j' < w) (value frame : Int) (hfr : I64 frame) :
  Calls Tryz.prog 27 #[.pointer (some ⟨sb, 0, none⟩), .agg #[.int .i64 (i : Int), .int .i64 (g : Int)], .int .i64 q.c, .int .i64 (j' : Int), .int .i64 value, .int .i64 frame] W fun e W' => e = .returned (.tuple #[q.val, .nilIface]) ∧ Tn B W sb c (rowed s i (putP (s.at i) (setQ q j' value frame))) W' := by
 obtain ⟨b1, r1, y1, y2, y3, z1, sz⟩ := sw_facts W (i : Int) (g : Int) (j' : Int) value frame
 obtain ⟨n, j, m, own, y, A⟩ := h.stands ha (by simp)
 have hw4 := h.okw.2 w (List.mem_of_getElem? hw)
 have hc16 : cc < 16 := by have := (A.ok.1.2 q hq).2; have := h.okw.1; omega
 have hbit := has_bit A.msk A.ok.1 hq hcc
 have hlt : ∀ k, c.f k ≠ (0, 0, 0) → k < W.heap.size := fun k hk => (h.lt k hk).2
 have hf : fitP s.ws (setQ q j' value frame) = true := by
  rw [Rs.fit_in (p := setQ q j' value frame) hcc hw]
  show ((pt q).put j' value frame).fitB w = true
  rw [Pt.put_fit _ hw4.2 hj']
  have := (A.ok.2 q hq).1
  rw [Rs.fit_in hcc hw] at this
  exact this
 have ht : I64 (setQ q j' value frame).t := by show I64 ((pt q).put j' value frame).t; rw [put_t]; exact hfr
 refine Calls.mono (set_tail (Ad := fun _ => ⟨0, 0, none⟩) (W := W) (i := (i : Int)) (g := (g : Int)) (cm := (cc : Int)) (u := pt q) (k := 0) (Tn.kept (B := B) (sb := sb) (c := c) (s' := rowed s i (putP (s.at i) (setQ q j' value frame))) hlt (by omega)) (.inl rfl) ?_) ?_
 ·rw [hcc]
  refine (part_ok (h.later b1) ha A cc hc16 hbit 83 #[.pointer (some ⟨W.heap.size + 1, 0, none⟩), .pointer (some ⟨W.heap.size + 2, 0, none⟩), .pointer (some ⟨W.heap.size + 3, 0, none⟩)] enters_set1 (pt q) (fun w => Tn B W sb c (rowed s i (putP (s.at i) (setQ q j' value frame))) w ∧ w.heap[W.heap.size + 4]? = some (.cells (Pt.zero.arr 0) 47 (0, 0))) (fun w w' e hs => ⟨e.1.st hlt (by omega) hs, hs.at e.2 (by omega)⟩) fun W2 hb2 _ => ?_).mono ?_
  ·have b2 := b1.trans (hb2.mono b1.size)
   obtain ⟨w', hw', hcol⟩ := ((h.later b2).tabOf A).col cc hbit
   obtain rfl : w = w' := by rw [hw] at hw'; simpa using hw'
   refine (set1_any hcol j (pt q) (row_here A.here A.ok.1 hq hcc) j' hj' value frame hfr (W.heap.size + 1) (W.heap.size + 2) (W.heap.size + 3) (cell_blk (blk_seen hb2 (Nat.le_refl _) y1) rfl) (cell_blk (blk_seen hb2 (Nat.le_refl _) y2) rfl) (cell_blk (blk_seen hb2 (Nat.le_refl _) y3) rfl)).mono ?_
   rintro e W3 ⟨rfl, e1, e2⟩
   exact ⟨rfl, h.turned A ha hf ht hq rfl hcc hw b2 e1 e2 b1.size (by omega) (blk_seen hb2 (Nat.le_refl _) z1)⟩
  ·rintro e w ⟨rfl, e1, e2⟩
   exact ⟨_, rfl, Er.none _ w, e1, e2⟩
 ·rintro e w ⟨r, rfl, e1, e2⟩
  obtain rfl := Er.zero e1
  refine ⟨?_, e2⟩
  rw [pt_val, hcc]
theorem set_bad (h : Sto none B W sb c s) (hE : Env8 W Ad) (ha : al s i g) (q : Prt) (hq : q ∈ s.at i) {cc w : Nat} (hcc : q.c = (cc : Int)) (hw : s.ws[cc]? = some w) (cell value frame : Int) (hcell : cell < 0 ∨ (w : Int) ≤ cell) :
  Calls Tryz.prog 27 #[.pointer (some ⟨sb, 0, none⟩), .agg #[.int .i64 (i : Int), .int .i64 (g : Int)], .int .i64 q.c, .int .i64 cell, .int .i64 value, .int .i64 frame] W fun e W' => ∃ r, e = .returned (.tuple #[Pt.zero.val 0, r]) ∧ Er Ad W' r 1 ∧ Below W.heap.size W W' := by
 obtain ⟨b1, r1, y1, y2, y3, z1, sz⟩ := sw_facts W (i : Int) (g : Int) cell value frame
 obtain ⟨n, j, m, own, y, A⟩ := h.stands ha (by simp)
 have hc16 : cc < 16 := by have := (A.ok.1.2 q hq).2; have := h.okw.1; omega
 have hbit := has_bit A.msk A.ok.1 hq hcc
 refine set_tail (kept_below W _ (by omega)) (.inr ⟨rfl, rfl⟩) ?_
 rw [hcc]
 refine (part_bad (Ad := Ad) (h.later b1) ha A cc hc16 hbit 83 #[.pointer (some ⟨W.heap.size + 1, 0, none⟩), .pointer (some ⟨W.heap.size + 2, 0, none⟩), .pointer (some ⟨W.heap.size + 3, 0, none⟩)] enters_set1 1 (by omega) fun W2 hb2 _ => ?_).mono ?_
 ·have b2 := b1.trans (hb2.mono b1.size)
  obtain ⟨w', hw', hcol⟩ := ((h.later b2).tabOf A).col cc hbit
  obtain rfl : w = w' := by rw [hw] at hw'; simpa using hw'
  refine (set1_bad Ad hcol (hE.later b2) j (pt q) (row_here A.here A.ok.1 hq hcc) cell value frame hcell (W.heap.size + 1) (W.heap.size + 2) (W.heap.size + 3) (cell_blk (blk_seen hb2 (Nat.le_refl _) y1) rfl) (cell_blk (blk_seen hb2 (Nat.le_refl _) y2) rfl) (cell_blk (blk_seen hb2 (Nat.le_refl _) y3) rfl)).mono ?_
  rintro e W3 ⟨t, x, rfl, e1, e2⟩
  exact ⟨t, x, rfl, ⟨2, e1⟩, e2⟩
 ·rintro e w ⟨r, rfl, e1, e2⟩
  exact ⟨r, rfl, e1, b1.trans (e2.mono b1.size), blk_seen e2 (Nat.le_refl _) z1⟩
theorem set_none (h : Sto none B W sb c s) (hE : Env8 W Ad) (ha : al s i g) (comp : Int) (hc : I64 comp) (hno : ∀ p ∈ s.at i, p.c ≠ comp) (cell value frame : Int) :
  Calls Tryz.prog 27 #[.pointer (some ⟨sb, 0, none⟩), .agg #[.int .i64 (i : Int), .int .i64 (g : Int)], .int .i64 comp, .int .i64 cell, .int .i64 value, .int .i64 frame] W fun e W' => ∃ r, e = .returned (.tuple #[Pt.zero.val 0, r]) ∧ Er Ad W' r 7 ∧ Below W.heap.size W W' := by
 obtain ⟨b1, r1, y1, y2, y3, z1, sz⟩ := sw_facts W (i : Int) (g : Int) cell value frame
 obtain ⟨n, j, m, own, y, A⟩ := h.stands ha (by simp)
 refine set_tail (kept_below W _ (by omega)) (.inr ⟨rfl, rfl⟩) ?_
 refine (part_none (h.later b1) (hE.later b1) ha A comp hc (no_bit A.msk A.ok.1 hno _) _).mono ?_
 rintro e w ⟨rfl, hb⟩
 exact ⟨_, rfl, Er.leaf Ad w 7 (by omega), b1.trans (hb.mono b1.size), blk_seen hb (Nat.le_refl _) z1⟩
theorem set_out {rv : Value} {i g : Int} {k : Nat} (h : NoFind Ad W rv i g k) (hk : 1 ≤ k ∧ k ≤ 18) (comp cell value frame : Int) :
  Calls Tryz.prog 27 #[rv, .agg #[.int .i64 i, .int .i64 g], .int .i64 comp, .int .i64 cell, .int .i64 value, .int .i64 frame] W fun e W' => ∃ r, e = .returned (.tuple #[Pt.zero.val 0, r]) ∧ Er Ad W' r k ∧ Below W.heap.size W W' := by
 obtain ⟨b1, r1, y1, y2, y3, z1, sz⟩ := sw_facts W i g cell value frame
 refine set_tail (kept_below W _ (by omega)) (.inr ⟨rfl, rfl⟩) ?_
 refine (part_err (fun w hb => h w (b1.trans (hb.mono b1.size))) comp _).mono ?_
 rintro e w ⟨rfl, hb⟩
 exact ⟨_, rfl, Er.leaf Ad w k hk, b1.trans (hb.mono b1.size), blk_seen hb (Nat.le_refl _) z1⟩
end
end Go.Proofs.YtnlcbheidiigaaaGreatDoor.So
namespace Go.Proofs.YtnlcbheidiigaaaGreatDoor.So
open Go.RowKit Go.Shelf Go.Maps
open At (St bAl cell_blk blk_free)
open Rs (Prt Prts PRow pCells Six)
set_option maxHeartbeats 800000 in
theorem rem1_any (W : World) (p : Prt) (xb : Nat) (comp : Int) (hx : W.cell? ⟨xb, 0, none⟩ = some (.int .i64 comp)) (bb : Bool) (hb : (p.c == comp) = bb) :
  Calls Tryz.prog 78 #[.agg #[.int .i64 p.c, .int .i64 p.v0, .int .i64 p.v1, .int .i64 p.v2, .int .i64 p.v3, .int .i64 p.t], .pointer (some ⟨xb, 0, none⟩)] W fun e W' => e = .returned (.bool bb) ∧ Below W.heap.size W W' := by
 obtain ⟨w1, hw1⟩ : ∃ w1, w1 = W.alloc (.cells #[.int .i64 p.c, .int .i64 p.v0, .int .i64 p.v1, .int .i64 p.v2, .int .i64 p.v3, .int .i64 p.t] 47) := ⟨_, rfl⟩
 have b1 : Below W.heap.size W w1 := by rw [hw1]; exact bAl _ _
 have r1 : w1.heap[W.heap.size]? = some (.cells p.arr 47 (0, 0)) := by rw [hw1]; exact heap_alloc_new W _
 have y0 : w1.cell? ⟨W.heap.size, 0, none⟩ = some (.int .i64 p.c) := cell_blk r1 rfl
 have x0 := At.seen b1 (Nat.le_refl _) hx
 have HW1 := hid hw1
 have B1 := hid b1
 clear hw1 b1 r1 hx
 go_enter Tryz.func78, Tryz.ntmps78
 go_upto_region 1 with fail
 rw [← HW1.out]
 go_wp2_with fail
 go_ret
 exact ⟨rfl, B1.out⟩
theorem prow_six {N : Nat} {W : World} {g n cap : Nat} {l : List Prt} (h : Prts N W (.slice (some ⟨g, 0, none⟩) n cap) l) {j : Nat} {p : Prt} (hj : l[j]? = some p) : Six W g (j * 6) p := by
 obtain ⟨a, c, e, hr⟩ := h.row
 obtain ⟨b, o, e1, e2⟩ := (e ▸ h.row : PRow W (.slice a l.length c) l).at hj
 have e3 : (some ⟨g, 0, none⟩ : Option Addr) = a := by simpa using congrArg (fun v => match v with | .slice x _ _ => x | _ => none) e
 rw [e1] at e3
 obtain ⟨rfl, rfl⟩ : g = b ∧ 0 = o := by simpa using e3
 rw [Nat.zero_add] at e2
 exact e2
set_option maxHeartbeats 1600000 in
set_option maxRecDepth 100000 in
theorem index_part {N : Nat} {W : World} {g n cap : Nat} {a b : List Prt} {q : Prt} (h : Prts N W (.slice (some ⟨g, 0, none⟩) n cap) (a ++ q :: b)) (hn : n = a.length + 1 + b.length) (hn9 : n ≤ 1000) (xb : Nat) (comp : Int) (hx : W.cell? ⟨xb, 0, none⟩ = some (.int .i64 comp)) (ha : ∀ x ∈ a, x.c ≠ comp) (hq : q.c = comp) :
  Calls Tryz.prog 118 #[.slice (some ⟨g, 0, none⟩) n cap, .func (.func 78) #[] #[.pointer (some ⟨xb, 0, none⟩)]] W fun e W' => e = .returned (.int .i64 (a.length : Int)) ∧ Below W.heap.size W W' := by
 have RD : Hid (∀ W', Below W.heap.size W W' → ∀ j p, (a ++ q :: b)[j]? = some p → Six W' g (j * 6) p) := fun W' hb j p hj => prow_six (h.later hb) hj
 have CL : Hid (∀ W', Below W.heap.size W W' → ∀ (p : Prt) bb, (p.c == comp) = bb → Calls Tryz.prog 78 #[.agg #[.int .i64 p.c, .int .i64 p.v0, .int .i64 p.v1, .int .i64 p.v2, .int .i64 p.v3, .int .i64 p.t], .pointer (some ⟨xb, 0, none⟩)] W' fun e W2 => e = .returned (.bool bb) ∧ Below W.heap.size W W2) := fun W' hb p bb hp =>
  (rem1_any W' p xb comp (At.seen hb (Nat.le_refl _) hx) bb hp).mono fun e W2 ⟨q1, q2⟩ => ⟨q1, hb.trans (q2.mono hb.size)⟩
 have HA := hid ha
 have hq' : (q.c == comp) = true := by simp [hq]
 have HQ := hid hq'
 have A0 : Hid (∀ k, k < a.length → ∃ p, a[k]? = some p ∧ (a ++ q :: b)[k]? = some p) := fun k hk => by
  obtain ⟨p, hp⟩ := at_lt a k hk
  exact ⟨p, hp, by rw [List.getElem?_append_left hk]; exact hp⟩
 have A1 : Hid ((a ++ q :: b)[a.length]? = some q) := by show _ = _; simp
 generalize a.length = A at *
 generalize b.length = Bn at *
 have hnI : (n : Int) ≤ 1000 := by omega
 have hAn : (A : Int) < (n : Int) := by omega
 clear h hx ha hq hq' hn hn9
 go_enter Tryz.func118, Tryz.ntmps118
 go_wp2_with fail
 go_loopg [5, 8] (A + 1) (fun gh _ i wr => ∃ k : Nat, k ≤ A ∧ gh = A + 1 - k ∧ i = .int .i64 (k : Int) ∧ Hid (Below W.heap.size W wr))
 case atStart => exact ⟨0, Nat.zero_le _, rfl, rfl, Below.refl _ _⟩
 case round =>
  obtain ⟨k, hk, rfl, rfl, HB⟩ := hrel
  have hki : (k : Int) < (n : Int) := by omega
  by_cases hlt : k < A
  ·obtain ⟨p, hp, hp2⟩ := A0.out k hlt
   obtain ⟨c0, c1, c2, c3, c4, c5⟩ := RD.out _ HB.out k p hp2
   have hne : (p.c == comp) = false := by simp [HA.out p (List.mem_of_getElem? hp)]
   have CC := hid (CL.out _ HB.out p _ hne)
   clear hp hp2 hne
   go_wp2_with fail
   refine CC.out.mono ?_
   rintro e w2 ⟨rfl, hb⟩
   have HB2 := hid hb
   clear hb CC c0 c1 c2 c3 c4 c5
   go_wp2_with fail
   go_roundg (A + 1 - (k + 1))
   case measure => omega
   case rel => exact ⟨k + 1, by omega, rfl, by go_num, HB2.out⟩
  ·obtain rfl : k = A := by omega
   obtain ⟨c0, c1, c2, c3, c4, c5⟩ := RD.out _ HB.out k q A1.out
   have CC := hid (CL.out _ HB.out q _ HQ.out)
   go_wp2_with fail
   refine CC.out.mono ?_
   rintro e w2 ⟨rfl, hb⟩
   have HB2 := hid hb
   clear hb CC c0 c1 c2 c3 c4 c5
   go_wp2_with fail
   go_ret
   exact ⟨rfl, HB2.out⟩
def sixo (w : World) (b o : Nat) (p : Prt) : World := (((((w.setCell ⟨b, o, none⟩ (.int .i64 p.c)).setCell ⟨b, o + 1, none⟩ (.int .i64 p.v0)).setCell ⟨b, o + 2, none⟩ (.int .i64 p.v1)).setCell ⟨b, o + 3, none⟩ (.int .i64 p.v2)).setCell ⟨b, o + 4, none⟩ (.int .i64 p.v3)).setCell ⟨b, o + 5, none⟩ (.int .i64 p.t)
def lset6 (l : List Value) (o : Nat) (p : Prt) : List Value := (((((l.set o (.int .i64 p.c)).set (o + 1) (.int .i64 p.v0)).set (o + 2) (.int .i64 p.v1)).set (o + 3) (.int .i64 p.v2)).set (o + 4) (.int .i64 p.v3)).set (o + 5) (.int .i64 p.t)
theorem pCells_cons (x : Prt) (l : List Prt) : pCells (x :: l) = .int .i64 x.c :: .int .i64 x.v0 :: .int .i64 x.v1 :: .int .i64 x.v2 :: .int .i64 x.v3 :: .int .i64 x.t :: pCells l := by simp [pCells, Prt.arr]
theorem pCells_set (l : List Prt) (k : Nat) (p : Prt) : lset6 (pCells l) (k * 6) p = pCells (l.set k p) := by
 unfold lset6
 induction l generalizing k with
 | nil => simp [pCells]
 | cons x l ih =>
  cases k with
  | zero => rw [List.set_cons_zero, pCells_cons, pCells_cons]; simp
  | succ k =>
   rw [List.set_cons_succ, pCells_cons, pCells_cons, ← ih, show (k + 1) * 6 = k * 6 + 1 + 1 + 1 + 1 + 1 + 1 by omega]
   simp
theorem pCells_take (l : List Prt) (k : Nat) : (pCells l).take (k * 6) = pCells (l.take k) := by
 induction l generalizing k with
 | nil => simp [pCells]
 | cons x l ih =>
  cases k with
  | zero => simp [pCells]
  | succ k => rw [List.take_succ_cons, pCells_cons, pCells_cons, ← ih, show (k + 1) * 6 = k * 6 + 1 + 1 + 1 + 1 + 1 + 1 by omega]; simp
theorem lset6_take (l : List Value) (o n : Nat) (p : Prt) : (lset6 l o p).take n = lset6 (l.take n) o p := by
 unfold lset6
 rw [List.take_set, List.take_set, List.take_set, List.take_set, List.take_set, List.take_set]
theorem sixo_blk {w : World} {b o : Nat} {cs : Array Value} {e : TypeId} (h : w.heap[b]? = some (.cells cs e (0, 0))) (p : Prt) : ∃ cs', (sixo w b o p).heap[b]? = some (.cells cs' e (0, 0)) ∧ cs'.toList = lset6 cs.toList o p := by
 have h1 := heap_setCell_same w b o _ e (.int .i64 p.c) h
 have h2 := heap_setCell_same _ b (o + 1) _ e (.int .i64 p.v0) h1
 have h3 := heap_setCell_same _ b (o + 2) _ e (.int .i64 p.v1) h2
 have h4 := heap_setCell_same _ b (o + 3) _ e (.int .i64 p.v2) h3
 have h5 := heap_setCell_same _ b (o + 4) _ e (.int .i64 p.v3) h4
 have h6 := heap_setCell_same _ b (o + 5) _ e (.int .i64 p.t) h5
 exact ⟨_, h6, by simp [lset6]⟩
theorem sixo_st (w : World) (b o : Nat) (p : Prt) : St (fun k => k = b) w (sixo w b o p) := by
 have c := fun (w : World) (j : Nat) (v : Value) => St.setCell (S := fun k => k = b) (a := w) (p := ⟨b, j, none⟩) v rfl
 exact (((((c w o _).trans (c _ (o + 1) _) fun _ _ q => q).trans (c _ (o + 2) _) fun _ _ q => q).trans (c _ (o + 3) _) fun _ _ q => q).trans (c _ (o + 4) _) fun _ _ q => q).trans (c _ (o + 5) _) fun _ _ q => q
theorem prts_blk {N : Nat} {W : World} {g n cap : Nat} {l : List Prt} (h : Prts N W (.slice (some ⟨g, 0, none⟩) n cap) l) : n = l.length ∧ N ≤ g ∧ ∃ cur, W.heap[g]? = some (.cells cur 47 (0, 0)) ∧ l.length ≤ cap ∧ cap ≤ maxLen ∧ cur.size = cap * 6 ∧ cur.toList.take (l.length * 6) = pCells l := by
 obtain ⟨-, h | ⟨g', cap', cur, e, h1, h2, h3, h4, h5, h6⟩⟩ := (h : World.ownsRow _ _ _ _ _ _ _)
 ·simp at h
 ·obtain ⟨rfl, rfl, rfl⟩ : g = g' ∧ n = l.length ∧ cap = cap' := by simpa using e
  exact ⟨rfl, h1, cur, h2, h3, h4, h5, h6⟩
theorem prts_of {N : Nat} {W : World} {g cap : Nat} {l : List Prt} {cur : Array Value} (h1 : N ≤ g) (h2 : W.heap[g]? = some (.cells cur 47 (0, 0))) (h3 : l.length ≤ cap) (h4 : cap ≤ maxLen) (h5 : cur.size = cap * 6) (h6 : cur.toList.take (l.length * 6) = pCells l) : Prts N W (.slice (some ⟨g, 0, none⟩) l.length cap) l := by
 refine ⟨?_, .inr ⟨g, cap, cur, rfl, h1, h2, h3, h4, h5, h6⟩⟩
 have hcl : cur.toList.length = cap * 6 := by simpa using h5
 show (pCells l).length = l.length * 6
 rw [← h6, List.length_take, hcl]
 have : l.length * 6 ≤ cap * 6 := Nat.mul_le_mul_right 6 h3
 omega
theorem prts_set {N : Nat} {W : World} {g n cap : Nat} {l : List Prt} (h : Prts N W (.slice (some ⟨g, 0, none⟩) n cap) l) (k : Nat) (p : Prt) : Prts N (sixo W g (k * 6) p) (.slice (some ⟨g, 0, none⟩) n cap) (l.set k p) := by
 obtain ⟨rfl, h1, cur, h2, h3, h4, h5, h6⟩ := prts_blk h
 obtain ⟨cs', e1, e2⟩ := sixo_blk (o := k * 6) h2 p
 have e3 : cs'.size = cap * 6 := by rw [← h5, ← Array.length_toList, e2]; simp [lset6]
 have := prts_of (l := l.set k p) h1 e1 (by rw [List.length_set]; exact h3) h4 e3 (by rw [List.length_set, e2, lset6_take, h6, pCells_set])
 rw [List.length_set] at this
 exact this
theorem setCells_blk {b : Nat} {e : TypeId} : ∀ (vs : List Value) (o : Nat) (w : World) (cs : Array Value), w.heap[b]? = some (.cells cs e (0, 0)) → ∃ cs', (w.setCells b o vs).heap[b]? = some (.cells cs' e (0, 0)) ∧ cs'.size = cs.size ∧ ∀ m, m ≤ o → cs'.toList.take m = cs.toList.take m
 | [], _, _, cs, h => ⟨cs, h, rfl, fun _ _ => rfl⟩
 | v :: r, o, w, cs, h => by
  have h1 := heap_setCell_same w b o _ e v h
  obtain ⟨cs', a1, a2, a3⟩ := setCells_blk r (o + 1) _ _ h1
  refine ⟨cs', a1, by rw [a2]; simp, fun m hm => ?_⟩
  rw [a3 m (by omega), Array.toList_setIfInBounds, List.take_set]
  exact List.set_eq_of_length_le (by rw [List.length_take]; omega)
theorem setCells_st {b : Nat} : ∀ (vs : List Value) (o : Nat) (w : World), St (fun k => k = b) w (w.setCells b o vs)
 | [], _, _ => St.of_below (Below.refl _ _)
 | v :: r, o, _ => (St.setCell (S := fun k => k = b) (p := ⟨b, o, none⟩) v rfl).trans (setCells_st r (o + 1) _) fun _ _ q => q
theorem clear_last {N : Nat} {W : World} {g n cap : Nat} {l : List Prt} {x : Prt} (h : Prts N W (.slice (some ⟨g, 0, none⟩) n cap) (l ++ [x])) (o c : Nat) (ho : o = l.length * 6) : ∃ w', (∀ ty, (Builtin.clear_ #[44] ty #[.slice (some ⟨g, o, none⟩) 1 c]).run Tryz.prog W = .ok (.tuple #[]) w') ∧ Prts N w' (.slice (some ⟨g, 0, none⟩) l.length cap) l ∧ St (fun k => k = g) W w' := by
 obtain ⟨rfl, h1, cur, h2, h3, h4, h5, h6⟩ := prts_blk h
 have hl : (l ++ [x]).length = l.length + 1 := by simp
 rw [hl] at h3 h6
 have hz : ∀ w, (zeroValue 47).run Tryz.prog w = .ok (.agg #[.int .i64 0, .int .i64 0, .int .i64 0, .int .i64 0, .int .i64 0, .int .i64 0]) w := by
  intro w
  simp [zeroValue, Tryz.t47]
 have hsz : l.length * 6 + 6 ≤ cur.size := by rw [h5]; omega
 have hst := run_storeCells_cells (P := Tryz.prog) g (l.length * 6) [.int .i64 0, .int .i64 0, .int .i64 0, .int .i64 0, .int .i64 0, .int .i64 0] 0 W (fun j hj => by
  obtain ⟨u, hu⟩ : ∃ u, cur[l.length * 6 + j]? = some u := ⟨_, Array.getElem?_eq_getElem (by simp at hj; omega)⟩
  rw [Nat.add_zero, cell_blk h2 hu]; rfl) (fun j hj => blk_free h2 _) (by simp [Value.oneCell'])
 rw [Nat.add_zero] at hst
 obtain ⟨cs', a1, a2, a3⟩ := setCells_blk [.int .i64 0, .int .i64 0, .int .i64 0, .int .i64 0, .int .i64 0, .int .i64 0] (l.length * 6) W cur h2
 refine ⟨_, fun ty => ?_, prts_of (cur := cs') h1 a1 (by omega) h4 (by rw [a2, h5]) ?_, setCells_st _ _ _⟩
 ·rw [ho]
  have e : (Builtin.zeroCells (Value.cells (.agg #[.int .i64 0, .int .i64 0, .int .i64 0, .int .i64 0, .int .i64 0, .int .i64 0])) 1).toList = [.int .i64 0, .int .i64 0, .int .i64 0, .int .i64 0, .int .i64 0, .int .i64 0] := by
   simp [Builtin.zeroCells, Value.cells]
   rfl
  simp [Builtin.clear_, run_underlying Tryz.underlying44, hz, e, hst]
 ·rw [a3 _ (Nat.le_refl _)]
  have := congrArg (List.take (l.length * 6)) h6
  rw [List.take_take, Nat.min_eq_left (by omega), pCells_take, List.take_left' rfl] at this
  exact this
end Go.Proofs.YtnlcbheidiigaaaGreatDoor.So
namespace Go.Proofs.YtnlcbheidiigaaaGreatDoor.So
open Go.RowKit Go.Shelf Go.Maps
open At (St bAl cell_blk blk_seen blk_free)
open Rs (Prt Prts)
def gone (a b : List Prt) (q : Prt) (k : Nat) : List Prt := a ++ b.take k ++ (q :: b).drop k
theorem gone_at (a b : List Prt) (q p : Prt) (k : Nat) (hp : b[k]? = some p) : (gone a b q k)[a.length + 1 + k]? = some p := by
 have hk := (List.getElem?_eq_some_iff.1 hp).1
 unfold gone
 rw [List.getElem?_append_right (by simp; omega), List.getElem?_drop]
 simp
 rw [Nat.min_eq_left (by omega), show k + (a.length + 1 + k - (a.length + k)) = k + 1 by omega, List.getElem?_cons_succ]
 exact hp
theorem gone_next (a b : List Prt) (q p : Prt) (k : Nat) (hp : b[k]? = some p) : (gone a b q k).set (a.length + k) p = gone a b q (k + 1) := by
 have hk := (List.getElem?_eq_some_iff.1 hp).1
 unfold gone
 rw [List.set_append_right _ _ (by simp; omega)]
 simp only [List.length_append, List.length_take, Nat.min_eq_left (Nat.le_of_lt hk), Nat.sub_self]
 rw [show (q :: b).drop k = ((q :: b)[k]'(by simp; omega)) :: (q :: b).drop (k + 1) from List.drop_eq_getElem_cons (by simp; omega), List.set_cons_zero, List.take_add_one, hp]
 simp
theorem gone_end (a b : List Prt) (q : Prt) : ∃ x, gone a b q b.length = (a ++ b) ++ [x] := by
 refine ⟨((q :: b)[b.length]'(by simp)), ?_⟩
 unfold gone
 rw [List.take_of_length_le (Nat.le_refl _)]
 congr 1
 rw [List.drop_eq_getElem_cons (by simp)]
 simp
set_option maxHeartbeats 3200000 in
set_option maxRecDepth 100000 in
theorem delete_any {N : Nat} {W : World} {g n cap : Nat} {a b : List Prt} {q : Prt} (h : Prts N W (.slice (some ⟨g, 0, none⟩) n cap) (a ++ q :: b)) (hn9 : n ≤ 1000) (xb : Nat) (comp : Int) (hx : W.cell? ⟨xb, 0, none⟩ = some (.int .i64 comp)) (hxg : ¬ xb = g) (ha : ∀ x ∈ a, x.c ≠ comp) (hq : q.c = comp) (hbn : ∀ x ∈ b, x.c ≠ comp) :
  Calls Tryz.prog 77 #[.slice (some ⟨g, 0, none⟩) n cap, .func (.func 78) #[] #[.pointer (some ⟨xb, 0, none⟩)]] W fun e W' => e = .returned (.slice (some ⟨g, 0, none⟩) (a ++ b).length cap) ∧ Prts N W' (.slice (some ⟨g, 0, none⟩) (a ++ b).length cap) (a ++ b) ∧ St (fun k => k = g) W W' := by
 obtain ⟨hn, hNg, cur, hcur, hcap, hcm, -, -⟩ := prts_blk h
 have hgW : g < W.heap.size := (Array.getElem?_eq_some_iff.1 hcur).1
 have hxW : xb < W.heap.size := by
  rcases Nat.lt_or_ge xb W.heap.size with q | q
  ·exact q
  ·simp [World.cell?, Array.getElem?_eq_none q] at hx
 rw [show (a ++ q :: b).length = a.length + 1 + b.length by simp; omega] at hn hcap
 rw [← hn] at hcap
 have IX := hid (index_part h hn hn9 xb comp hx ha hq)
 have CL : Hid (∀ W', St (fun k => k = g) W W' → ∀ (p : Prt) bb, (p.c == comp) = bb → Calls Tryz.prog 78 #[.agg #[.int .i64 p.c, .int .i64 p.v0, .int .i64 p.v1, .int .i64 p.v2, .int .i64 p.v3, .int .i64 p.t], .pointer (some ⟨xb, 0, none⟩)] W' fun e W2 => e = .returned (.bool bb) ∧ Below W'.heap.size W' W2) := fun W' hs p bb hp =>
  rem1_any W' p xb comp (st_cell hs hx hxg) bb hp
 have HB := hid hbn
 have G0 : Hid (gone a b q 0 = a ++ q :: b) := by show _ = _; simp [gone]
 have GA := hid (gone_at a b q)
 have GN := hid (gone_next a b q)
 have GE := hid (gone_end a b q)
 have HL := hid (show (a ++ b).length = a.length + b.length by simp)
 have HH := hid h
 obtain ⟨A, hA⟩ : ∃ A, A = a.length := ⟨_, rfl⟩
 obtain ⟨Bn, hBn⟩ : ∃ Bn, Bn = b.length := ⟨_, rfl⟩
 rw [← hA] at IX GA GN HL hn
 rw [← hBn] at GE HL hn
 have hnI : (n : Int) ≤ 1000 := by omega
 have hAn : (A : Int) + 1 + (Bn : Int) = (n : Int) := by omega
 have hA1 : ¬ ((A : Int) = -1) := by omega
 rw [HL.out]
 have HHN := hid hn
 have HBN := hid hBn
 have hcapI : (n : Int) ≤ (cap : Int) := by omega
 clear h hx ha hq hbn hcur hcm hn9 hn hA hBn hNg
 go_enter Tryz.func77, Tryz.ntmps77
 go_wp2_with fail
 refine IX.out.mono ?_
 rintro e w1 ⟨rfl, hb1⟩
 have P1 := hid (HH.out.later hb1)
 have S1 := hid (St.of_below (S := fun k => k = g) hb1)
 clear hb1 IX
 go_wp2_with fail
 go_loopg [5, 6, 7] Bn (fun gh i j _ wr => ∃ k i0 j0 : Nat, k ≤ Bn ∧ gh = Bn - k ∧ i = .int .i64 (i0 : Int) ∧ j = .int .i64 (j0 : Int) ∧ Hid (i0 = A + k) ∧ Hid (j0 = A + 1 + k) ∧ Hid (Prts N wr (.slice (some ⟨g, 0, none⟩) n cap) (gone a b q k)) ∧ Hid (St (fun k => k = g) W wr))
 case atStart => exact ⟨0, A, A + 1, Nat.zero_le _, rfl, rfl, by go_num, rfl, rfl, (by show Prts _ _ _ _; rw [G0.out]; exact P1.out), S1.out⟩
 case round =>
  obtain ⟨k, i0, j0, hk, rfl, rfl, rfl, HI, HJ, HP, HS⟩ := hrel
  by_cases hlt : k < Bn
  ·have hji : (j0 : Int) < (n : Int) := by have := HJ.out; omega
   have hii : (i0 : Int) < (n : Int) := by have := HI.out; omega
   obtain ⟨p, hp⟩ := at_lt b k (by rw [← HBN.out]; exact hlt)
   have hp1 : (gone a b q k)[j0]? = some p := by rw [HJ.out]; exact GA.out p k hp
   obtain ⟨c0, c1, c2, c3, c4, c5⟩ := prow_six HP.out hp1
   have hne : (p.c == comp) = false := by simp [HB.out p (List.mem_of_getElem? hp)]
   obtain ⟨w2, hw2⟩ : ∃ w2, w2 = wr.alloc (.cells #[.int .i64 p.c, .int .i64 p.v0, .int .i64 p.v1, .int .i64 p.v2, .int .i64 p.v3, .int .i64 p.t] 47) := ⟨_, rfl⟩
   have b2 : Below wr.heap.size wr w2 := by rw [hw2]; exact bAl _ _
   have r2 : w2.heap[wr.heap.size]? = some (.cells p.arr 47 (0, 0)) := by rw [hw2]; exact heap_alloc_new wr _
   have s2 := HS.out.trans (St.of_below (S := fun _ => False) b2) fun _ _ q => q.elim
   have CC := hid (CL.out w2 s2 p _ hne)
   have P2 := hid (HP.out.later b2)
   have S2 := hid s2
   have R2 := hid r2
   have HW2 := hid hw2
   have y0 : w2.cell? ⟨wr.heap.size, 0, none⟩ = some (.int .i64 p.c) := cell_blk r2 rfl
   have y1 : w2.cell? ⟨wr.heap.size, 1, none⟩ = some (.int .i64 p.v0) := cell_blk r2 rfl
   have y2 : w2.cell? ⟨wr.heap.size, 2, none⟩ = some (.int .i64 p.v1) := cell_blk r2 rfl
   have y3 : w2.cell? ⟨wr.heap.size, 3, none⟩ = some (.int .i64 p.v2) := cell_blk r2 rfl
   have y4 : w2.cell? ⟨wr.heap.size, 4, none⟩ = some (.int .i64 p.v3) := cell_blk r2 rfl
   have y5 : w2.cell? ⟨wr.heap.size, 5, none⟩ = some (.int .i64 p.t) := cell_blk r2 rfl
   have GK := hid (GN.out p k hp)
   clear hp hp1 hne hw2 b2 r2 s2 HP
   go_upto_region 8 with fail
   rw [← HW2.out]
   go_wp2_with fail
   refine CC.out.mono ?_
   rintro e w3 ⟨rfl, hb3⟩
   have P3 := hid (P2.out.later hb3)
   have S3 := hid (S2.out.trans (St.of_below (S := fun _ => False) hb3) fun _ _ q => q.elim)
   have r3 := blk_seen hb3 (Nat.le_refl _) R2.out
   have z0 : w3.cell? ⟨wr.heap.size, 0, none⟩ = some (.int .i64 p.c) := cell_blk r3 rfl
   have z1 : w3.cell? ⟨wr.heap.size, 1, none⟩ = some (.int .i64 p.v0) := cell_blk r3 rfl
   have z2 : w3.cell? ⟨wr.heap.size, 2, none⟩ = some (.int .i64 p.v1) := cell_blk r3 rfl
   have z3 : w3.cell? ⟨wr.heap.size, 3, none⟩ = some (.int .i64 p.v2) := cell_blk r3 rfl
   have z4 : w3.cell? ⟨wr.heap.size, 4, none⟩ = some (.int .i64 p.v3) := cell_blk r3 rfl
   have z5 : w3.cell? ⟨wr.heap.size, 5, none⟩ = some (.int .i64 p.t) := cell_blk r3 rfl
   obtain ⟨en, -, cu3, hc3, -, -, -, -⟩ := prts_blk P3.out
   obtain ⟨x, hx⟩ := at_lt (gone a b q k) i0 (by rw [← en]; omega)
   obtain ⟨d0, d1, d2, d3, d4, d5⟩ := prow_six P3.out hx
   have f0 := blk_free hc3 (i0 * 6)
   have f1 := blk_free hc3 (i0 * 6 + 1)
   have f2 := blk_free hc3 (i0 * 6 + 2)
   have f3 := blk_free hc3 (i0 * 6 + 3)
   have f4 := blk_free hc3 (i0 * 6 + 4)
   have f5 := blk_free hc3 (i0 * 6 + 5)
   have P4 := hid (prts_set P3.out i0 p)
   have S4 := hid (S3.out.trans (sixo_st w3 g (i0 * 6) p) fun _ _ q => q)
   unfold sixo at P4 S4
   clear hb3 CC r3 hx en hc3 y0 y1 y2 y3 y4 y5 c0 c1 c2 c3 c4 c5
   go_wp2_with fail
   go_roundg (Bn - (k + 1))
   case measure => omega
   case rel => exact ⟨k + 1, i0 + 1, j0 + 1, by omega, rfl, by go_num, by go_num, (by have := HI.out; show _ = _; omega), (by have := HJ.out; show _ = _; omega), (by show Prts _ _ _ _; rw [← GK.out, ← HI.out]; exact P4.out), S4.out⟩
  ·obtain rfl : k = Bn := by omega
   have hji : ¬ ((j0 : Int) < (n : Int)) := by have := HJ.out; omega
   have hin : (i0 : Int) ≤ (n : Int) := by have := HI.out; omega
   have hn1 : n - i0 = 1 := by have := HI.out; omega
   have hci : ¬ (cap = i0) := by omega
   obtain ⟨x, hx⟩ := GE.out
   have PX := HP.out
   rw [hx] at PX
   obtain ⟨w5, hcl, P5, S5⟩ := clear_last PX (i0 * 6) (cap - i0) (by rw [HL.out, HI.out])
   have C5 := hid hcl
   have P6 := hid P5
   have S6 := hid (HS.out.trans S5 fun _ _ q => q)
   rw [HL.out] at P6
   have hi9 : (i0 : Int) ≤ 1000 := by omega
   clear PX hx P5 S5 HP HS
   go_wp2_with fail
   go_ret
   exact ⟨by show Ending.returned (.slice (some ⟨g, 0, none⟩) i0 cap) = _; rw [HI.out], P6.out, S6.out⟩
end Go.Proofs.YtnlcbheidiigaaaGreatDoor.So
namespace Go.Proofs.YtnlcbheidiigaaaGreatDoor.So
open Go.RowKit Go.Shelf Go.Maps
open Co (Pt lies put6_blk put6_st put6)
open At (St bAl cell_blk blk_seen)
open Rs (Prt SD Prts remP)
def yw (W : World) (i g comp : Int) : World := ((W.alloc (.cells #[.int .i64 i, .int .i64 g] 43)).alloc (.cells #[.int .i64 comp] 3)).alloc (.cells #[.int .i64 0, .int .i64 0, .int .i64 0, .int .i64 0, .int .i64 0, .int .i64 0] 47)
theorem yw_facts (W : World) (i g comp : Int) : Below W.heap.size W (yw W i g comp) ∧ (yw W i g comp).heap[W.heap.size]? = some (.cells #[.int .i64 i, .int .i64 g] 43 (0, 0)) ∧ (yw W i g comp).heap[W.heap.size + 1]? = some (.cells #[.int .i64 comp] 3 (0, 0)) ∧ (yw W i g comp).heap[W.heap.size + 2]? = some (.cells (Pt.zero.arr 0) 47 (0, 0)) ∧ (yw W i g comp).heap.size = W.heap.size + 3 := by
 obtain ⟨a1, a2, a3⟩ := al_step (n := 0) (Below.refl W.heap.size W) rfl #[.int .i64 i, .int .i64 g] 43
 obtain ⟨b1, b2, b3⟩ := al_step a1 a2 #[.int .i64 comp] 3
 obtain ⟨e1, e2, e3⟩ := al_step b1 b2 #[.int .i64 0, .int .i64 0, .int .i64 0, .int .i64 0, .int .i64 0, .int .i64 0] 47
 have K : ∀ {w : World} {k : Nat} {o : Obj} (q : Obj), w.heap[k]? = some o → (w.alloc q).heap[k]? = some o := fun q h => blk_seen (bAl _ _) (Nat.le_refl _) h
 exact ⟨e1, K _ (K _ a3), K _ b3, e3, e2⟩
def Kp (W w3 w : World) : Prop := w3.heap.size ≤ w.heap.size ∧ ∀ k o, W.heap.size ≤ k → w3.heap[k]? = some o → w.heap[k]? = some o
theorem Kp.later {W w3 w w' : World} (h : Kp W w3 w) (hb : Below w.heap.size w w') : Kp W w3 w' := ⟨Nat.le_trans h.1 hb.size, fun k o hk ho => blk_seen hb (Nat.le_refl _) (h.2 k o hk ho)⟩
theorem Kp.st {W w3 w w' : World} (h : Kp W w3 w) {S : Nat → Prop} (hs : St S w w') (hS : ∀ k, W.heap.size ≤ k → k < w3.heap.size → ¬ S k) : Kp W w3 w' := ⟨Nat.le_trans h.1 hs.size, fun k o hk ho => hs.at (h.2 k o hk ho) (hS k hk (Array.getElem?_eq_some_iff.1 ho).1)⟩
theorem prts_form {N : Nat} {W : World} {v : Value} {l : List Prt} (h : Prts N W v l) (hl : l ≠ []) : ∃ g n cap, v = .slice (some ⟨g, 0, none⟩) n cap ∧ n = l.length := by
 obtain ⟨-, ⟨-, h0⟩ | ⟨g, cap, cur, e, -⟩⟩ := (h : World.ownsRow _ _ _ _ _ _ _)
 ·exact absurd (List.length_eq_zero_iff.1 h0) hl
 ·exact ⟨g, _, cap, e, rfl⟩
theorem rem_split {l : List Prt} (h : Apart l) {q : Prt} (hq : q ∈ l) : ∃ a b, l = a ++ q :: b ∧ (∀ x ∈ a, x.c ≠ q.c) ∧ (∀ x ∈ b, x.c ≠ q.c) ∧ remP l q.c = a ++ b := by
 obtain ⟨a, b, rfl⟩ := List.append_of_mem hq
 have h' := List.pairwise_append.1 h
 have ha : ∀ x ∈ a, x.c ≠ q.c := fun x hx => h'.2.2 x hx q (by simp)
 have hb : ∀ x ∈ b, x.c ≠ q.c := fun x hx e => (List.pairwise_cons.1 h'.2.1).1 x hx e.symm
 refine ⟨a, b, rfl, ha, hb, ?_⟩
 unfold remP
 rw [List.filter_append, List.filter_cons]
 have ea : a.filter (fun x => !(x.c == q.c)) = a := List.filter_eq_self.2 fun x hx => by simp [ha x hx]
 have eb : b.filter (fun x => !(x.c == q.c)) = b := List.filter_eq_self.2 fun x hx => by simp [hb x hx]
 rw [ea, eb]
 simp
def Erd (W : World) (i g : Nat) (W' : World) : Prop := W'.cell? ⟨W.heap.size, 0, none⟩ = some (.int .i64 (i : Int)) ∧ W'.cell? ⟨W.heap.size, 1, none⟩ = some (.int .i64 (g : Int))
set_option maxRecDepth 100000 in
theorem leave_rem {B : Nat} {W w3 : World} {sb : Nat} {c : CV} {s : SD} {i g : Nat} {q : Prt} (h : Sto none B W sb c s) (ha : al s i g) (hq : q ∈ s.at i) (hb3 : Below W.heap.size W w3) (h1 : w3.heap[W.heap.size]? = some (.cells #[.int .i64 (i : Int), .int .i64 (g : Int)] 43 (0, 0))) (h2 : w3.heap[W.heap.size + 1]? = some (.cells #[.int .i64 q.c] 3 (0, 0))) (hz : W.heap.size + 2 < w3.heap.size) (W' : World) (hb : Below w3.heap.size w3 W') :
  Calls Tryz.prog 73 #[.pointer (some ⟨sb, 0, none⟩), .agg #[.int .i64 (i : Int), .int .i64 (g : Int)]] W' fun e W2 => ∃ v, e = .returned v ∧ Hid (∀ w, Below W2.heap.size W2 w → Erd W i g w) ∧
   Hid (∀ w, Below W2.heap.size W2 w → Calls Tryz.prog 77 #[v, .func (.func 78) #[] #[.pointer (some ⟨W.heap.size + 1, 0, none⟩)]] w fun e W3 => ∃ v', e = .returned v' ∧ Hid (∀ w, Below W3.heap.size W3 w → Erd W i g w) ∧
    Hid (∀ w, Below W3.heap.size W3 w → Calls Tryz.prog 66 #[.pointer (some ⟨sb, 0, none⟩), .agg #[.int .i64 (i : Int), .int .i64 (g : Int)], v'] w fun e W4 => e = .returned (.tuple #[]) ∧ Hid (Erd W i g W4) ∧ Hid (Kp W w3 W4 ∧ ∃ c', Sto none B W4 sb c' (entered s i (remP (s.at i) q.c)) ∧ c'.t = c.t ∧ c'.f (W.heap.size + 2) = (0, 0, 0) ∧ Gw c c' W W4))) := by
 obtain ⟨n, j, m, own, y, A⟩ := h.stands ha (by simp)
 obtain ⟨a, b, hl, hla, hlb, hlr⟩ := rem_split (okL_apart A.ok.1) hq
 have ER : ∀ w, Kp W w3 w → Erd W i g w := fun w hk => ⟨cell_blk (hk.2 _ _ (Nat.le_refl _) h1) rfl, cell_blk (hk.2 _ _ (Nat.le_refl _) h1) rfl⟩
 refine (leave_lv h ha (hb3.trans (hb.mono hb3.size)) (N := w3.heap.size) hb.size hb3.size).mono ?_
 rintro e W2 ⟨v, c3, rfl, L, q2⟩
 have k2 : Kp W w3 W2 := (Kp.later (w := w3) ⟨Nat.le_refl _, fun _ _ _ o => o⟩ hb).st q2 fun k hk _ q => by omega
 refine ⟨v, rfl, fun w hw => ER w (k2.later hw), fun w hw => ?_⟩
 obtain ⟨gb, nn, cap, rfl, hnn⟩ := prts_form L.parts (by rw [hl]; simp)
 have pw := L.parts.later hw
 have hgN := (pw.lt gb rfl).1
 have hlen : (s.at i).length ≤ 1000 := by have := Rs.okL_few A.ok.1 h.okw.1; omega
 have pw' := pw
 rw [hl] at pw'
 refine (delete_any pw' (by omega) (W.heap.size + 1) q.c (cell_blk ((k2.later hw).2 _ _ (by omega) h2) rfl) (by omega) hla rfl hlb).mono ?_
 rintro e W3 ⟨rfl, p3, s3⟩
 have k3 : Kp W w3 W3 := (k2.later hw).st s3 fun k _ hk q => by omega
 have L2 := L.later hw
 have z3 : c3.f gb = (0, 0, 0) := L.out gb rfl
 have t3 := L2.sto.keep s3 fun k hk e => hk (by rw [e]; exact z3)
 have g3 : Gw c c3 W W3 := ⟨L2.gw.st.trans s3 fun k hk e => by have := hb3.size; omega, L2.gw.new⟩
 refine ⟨_, rfl, fun w' hw' => ER w' (k3.later hw'), fun w' hw' => ?_⟩
 refine (enter_any (t3.later hw') ha (prow_out (p3.later hw') fun k hk e => e (by have e' : gb = k := (by simpa [Value.ownBlock] using hk); rw [← e']; exact z3)) (List.Perm.refl _) (by rw [← hlr]; exact okE_rem A.ok q.c)).mono ?_
 rintro e W4 ⟨rfl, c', e1, e2, e3⟩
 have k4 : Kp W w3 W4 := (k3.later hw').st e3.st fun k hk _ e => by have := L.low k e; omega
 refine ⟨rfl, ER W4 k4, k4, c', hlr ▸ e1, e2.trans L.t, Classical.byContradiction fun e => ?_, (g3.trans (Gw.of_below hw')).trans e3⟩
 rcases e3.new _ e with e | e
 ·have := L.low _ e; omega
 ·have := k3.1; have := hw'.size; omega
section
variable {Ad : Nat → Addr} {W : World}
set_option maxHeartbeats 1600000 in
set_option maxRecDepth 100000 in
theorem remove_err {rv : Value} {i g comp : Int} {k : Nat} (hk : k ≠ 0) (h : ∀ W', Below W.heap.size W W' → Calls Tryz.prog 38 #[rv, .agg #[.int .i64 i, .int .i64 g], .int .i64 comp] W' fun e W2 => ∃ r, e = .returned (.tuple #[Pt.zero.val 0, r]) ∧ Er Ad W2 r k ∧ Below W'.heap.size W' W2) :
  Calls Tryz.prog 23 #[rv, .agg #[.int .i64 i, .int .i64 g], .int .i64 comp] W fun e W' => ∃ r, e = .returned (.tuple #[Pt.zero.val 0, r]) ∧ Er Ad W' r k 10 ∧ Below W.heap.size W W' := by
 obtain ⟨b1, r1, p1, q1, z1⟩ := yw_facts W i g comp
 obtain ⟨w1, hw1⟩ : ∃ w1, w1 = yw W i g comp := ⟨_, rfl⟩
 rw [← hw1] at b1 r1 p1 z1 q1
 have d0 := cell_blk r1 (j := 0) rfl
 have d1 := cell_blk r1 (j := 1) rfl
 have y0 : w1.cell? ⟨W.heap.size + 1, 0, none⟩ = some (.int .i64 comp) := cell_blk p1 rfl
 have FD := hid (h w1 b1)
 have HW1 := hid hw1
 have B1 := hid b1
 have Q1 := hid q1
 have HK := hid hk
 unfold yw at HW1
 unfold Pt.val Pt.zero at FD
 clear hw1 b1 r1 h p1 q1 hk z1
 go_enter Tryz.func23, Tryz.ntmps23
 go_upto_region 1 with fail
 rw [← HW1.out]
 go_wp2_with fail
 refine FD.out.mono ?_
 rintro e w2 ⟨r, rfl, hr, hb⟩
 obtain ⟨w3, hw3⟩ : ∃ w3, w3 = w2.alloc (.cells #[.int .i64 0, .int .i64 0, .int .i64 0, .int .i64 0, .int .i64 0, .int .i64 0] 47) := ⟨_, rfl⟩
 have b3 : Below w2.heap.size w2 w3 := by rw [hw3]; exact bAl _ _
 have B2 := hid ((B1.out.trans (hb.mono B1.out.size)).trans (b3.mono (B1.out.trans (hb.mono B1.out.size)).size))
 have Q2 := hid (blk_seen b3 (Nat.le_refl _) (blk_seen hb (Nat.le_refl _) Q1.out))
 have AC := hid fun str => at_er Ad str r k w3 (m := 10) (hr.later b3)
 have HW3 := hid hw3
 obtain ⟨t, q, rfl⟩ : ∃ t q, r = .iface t q := by
  rcases hr with ⟨e, -⟩ | ⟨-, t, q, e, -⟩
  ·exact absurd e HK.out
  ·exact ⟨t, q, e⟩
 clear hb hr FD y0 d0 d1 b3 hw3
 go_upto_region 2 with fail
 rw [← HW3.out]
 go_wp2_with fail
 refine (AC.out _).mono ?_
 rintro e w4 ⟨v', rfl, q1, q2⟩
 have q3 := blk_seen q2 (Nat.le_refl _) Q2.out
 have B3 := hid (B2.out.trans (q2.mono B2.out.size))
 have R3 := hid q1
 obtain ⟨x0, x1, x2, x3, x4, x5, f0, f1, f2, f3, f4, f5⟩ := lies q3
 have HZ : Hid (put6 w4 (W.heap.size + 2) 0 Pt.zero = w4) := Co.put6_same q3
 unfold put6 at HZ
 clear q1 q2 q3 AC
 go_wp2_with fail
 rw [show (((((w4.setCell ⟨W.heap.size + 2, 0, none⟩ (.int .i64 0)).setCell ⟨W.heap.size + 2, 1, none⟩ (.int .i64 0)).setCell ⟨W.heap.size + 2, 2, none⟩ (.int .i64 0)).setCell ⟨W.heap.size + 2, 3, none⟩ (.int .i64 0)).setCell ⟨W.heap.size + 2, 4, none⟩ (.int .i64 0)).setCell ⟨W.heap.size + 2, 5, none⟩ (.int .i64 0) = w4 from HZ.out]
 exact bodyPost_ret (v := .tuple #[Pt.zero.val 0, v']) (by simp [results, Tryz.results23, go_sem, x0, x1, x2, x3, x4, x5, Pt.zero, Pt.val]) rfl ⟨_, rfl, R3.out, B3.out⟩
set_option maxHeartbeats 3200000 in
set_option maxRecDepth 100000 in
theorem remove_ok {B : Nat} {sb : Nat} {c : CV} {s : SD} {i g : Nat} (h : Sto none B W sb c s) (ha : al s i g) (q : Prt) (hq : q ∈ s.at i) :
  Calls Tryz.prog 23 #[.pointer (some ⟨sb, 0, none⟩), .agg #[.int .i64 (i : Int), .int .i64 (g : Int)], .int .i64 q.c] W fun e W' => e = .returned (.tuple #[q.val, .nilIface]) ∧ ∃ c', Sto none B W' sb c' (entered s i (remP (s.at i) q.c)) ∧ c'.t = c.t ∧ Gw c c' W W' := by
 obtain ⟨b1, r1, p1, q1, z1⟩ := yw_facts W (i : Int) (g : Int) q.c
 obtain ⟨w1, hw1⟩ : ∃ w1, w1 = yw W (i : Int) (g : Int) q.c := ⟨_, rfl⟩
 rw [← hw1] at b1 r1 p1 z1 q1
 have d0 := cell_blk r1 (j := 0) rfl
 have d1 := cell_blk r1 (j := 1) rfl
 have y0 : w1.cell? ⟨W.heap.size + 1, 0, none⟩ = some (.int .i64 q.c) := cell_blk p1 rfl
 have FD := hid (get_ok (h.later b1) ha q hq)
 have HW1 := hid hw1
 have B1 := hid b1
 have R1 := hid r1
 have P1 := hid p1
 have Q1 := hid q1
 have H := hid h
 have HA := hid ha
 have HQ := hid hq
 unfold yw at HW1
 unfold Prt.val at FD ⊢
 clear hw1 b1 r1 h ha hq p1 q1
 go_enter Tryz.func23, Tryz.ntmps23
 go_upto_region 1 with fail
 rw [← HW1.out]
 go_wp2_with fail
 refine FD.out.mono ?_
 rintro e w2 ⟨rfl, hb⟩
 obtain ⟨w3, hw3⟩ : ∃ w3, w3 = w2.alloc (.cells #[.int .i64 q.c, .int .i64 q.v0, .int .i64 q.v1, .int .i64 q.v2, .int .i64 q.v3, .int .i64 q.t] 47) := ⟨_, rfl⟩
 have b3 : Below w2.heap.size w2 w3 := by rw [hw3]; exact bAl _ _
 have v3 : w3.heap[w2.heap.size]? = some (.cells q.arr 47 (0, 0)) := by rw [hw3]; exact heap_alloc_new w2 _
 have b13 := hb.trans (b3.mono hb.size)
 have V3 := hid v3
 have B3 := hid (B1.out.trans (b13.mono B1.out.size))
 have R3 := hid (blk_seen b13 (Nat.le_refl _) R1.out)
 have P3 := hid (blk_seen b13 (Nat.le_refl _) P1.out)
 have Q3 := hid (blk_seen b13 (Nat.le_refl _) Q1.out)
 have hz2 : W.heap.size + 3 ≤ w2.heap.size := by have := hb.size; omega
 have hz3 : W.heap.size + 2 < w3.heap.size := by have := b3.size; omega
 have HW3 := hid hw3
 have LV := hid (leave_rem H.out HA.out HQ.out B3.out R3.out P3.out hz3)
 have KK : Hid (∀ W', Below w3.heap.size w3 W' → Erd W i g W') := fun W' hb => ⟨cell_blk (blk_seen hb (Nat.le_refl _) R3.out) rfl, cell_blk (blk_seen hb (Nat.le_refl _) R3.out) rfl⟩
 unfold Erd at KK LV
 clear hb FD y0 d0 d1 b3 hw3 v3 b13 z1
 go_upto_region 2 with fail
 rw [← HW3.out]
 go_wp2_with fail
 go_region_held3 (fun W' => W'.cell? ⟨W.heap.size, 0, none⟩ = some (.int .i64 (i : Int)) ∧ W'.cell? ⟨W.heap.size, 1, none⟩ = some (.int .i64 (g : Int)))
  (first | exact KK.out _ (Below.refl _ _).drew | exact KK.out _ (Below.refl _ _) | exact K4.out _ (Below.refl _ _) | exact K5.out _ (Below.refl _ _) | exact K6.out)
  (first
   | (go_at_call 73; refine (LV.out _ (by first | exact (Below.refl _ _).drew | exact Below.refl _ _)).mono ?_; rintro e w4 ⟨v, rfl, K4, D4⟩)
   | (go_at_call 77; refine (D4.out _ (by first | exact Below.refl _ _ | exact (Below.refl _ _).drew)).mono ?_; rintro e w5 ⟨v5, rfl, K5, E5⟩)
   | (go_at_call 66; refine (E5.out _ (by first | exact Below.refl _ _ | exact (Below.refl _ _).drew)).mono ?_; rintro e w6 ⟨rfl, K6, R6⟩)
   | fail)
 all_goals
  have k8 := R6.out.1.2 _ _ (by omega) V3.out
  have z8 := R6.out.1.2 _ _ (by omega) Q3.out
  have t0 : w6.cell? ⟨w2.heap.size, 0, none⟩ = some (.int .i64 q.c) := cell_blk k8 rfl
  have t1 : w6.cell? ⟨w2.heap.size, 1, none⟩ = some (.int .i64 q.v0) := cell_blk k8 rfl
  have t2 : w6.cell? ⟨w2.heap.size, 2, none⟩ = some (.int .i64 q.v1) := cell_blk k8 rfl
  have t3 : w6.cell? ⟨w2.heap.size, 3, none⟩ = some (.int .i64 q.v2) := cell_blk k8 rfl
  have t4 : w6.cell? ⟨w2.heap.size, 4, none⟩ = some (.int .i64 q.v3) := cell_blk k8 rfl
  have t5 : w6.cell? ⟨w2.heap.size, 5, none⟩ = some (.int .i64 q.t) := cell_blk k8 rfl
  obtain ⟨x0, x1, x2, x3, x4, x5, f0, f1, f2, f3, f4, f5⟩ := lies z8
  have Z8 := hid z8
  clear k8 z8
  go_wp2_with fail
  have PB := put6_blk Z8.out rfl q.c (pt q)
  have PS := st_co (put6_st w6 (W.heap.size + 2) q.c (pt q))
  unfold put6 pt at PB PS
  dsimp only at PB PS
  obtain ⟨d0, d1, d2, d3, d4, d5, -, -, -, -, -, -⟩ := lies PB
  generalize (((((w6.setCell ⟨W.heap.size + 2, 0, none⟩ (.int .i64 q.c)).setCell ⟨W.heap.size + 2, 1, none⟩ (.int .i64 q.v0)).setCell ⟨W.heap.size + 2, 2, none⟩ (.int .i64 q.v1)).setCell ⟨W.heap.size + 2, 3, none⟩ (.int .i64 q.v2)).setCell ⟨W.heap.size + 2, 4, none⟩ (.int .i64 q.v3)).setCell ⟨W.heap.size + 2, 5, none⟩ (.int .i64 q.t) = w7 at *
  obtain ⟨-, c', e1, e2, e3, e4⟩ := R6.out
  refine bodyPost_ret (v := .tuple #[.agg #[.int .i64 q.c, .int .i64 q.v0, .int .i64 q.v1, .int .i64 q.v2, .int .i64 q.v3, .int .i64 q.t], .nilIface]) (by simp [results, Tryz.results23, go_sem, d0, d1, d2, d3, d4, d5]) rfl ⟨rfl, c', e1.keep PS fun k hk e => hk (by rw [e]; exact e3), e2, ⟨e4.st.trans PS fun k hk e => ?_, e4.new⟩⟩
  omega
end
end Go.Proofs.YtnlcbheidiigaaaGreatDoor.So
namespace Go.Proofs
open Go.Shelf
def Tryz.sortEnt_ren : Go.Shelf.Ren := ⟨fun | 6 => 121 | 15 => 144 | 14 => 143 | 28 => 159 | 29 => 160 | 20 => 151 | 21 => 152 | 22 => 153 | 23 => 154 | 24 => 155 | 25 => 156 | 26 => 157 | 27 => 158 | 46 => 165 | 47 => 166 | 48 => 167 | 49 => 168 | 50 => 169 | 57 => 174 | n => n, fun | 22 => 41 | 24 => 43 | 25 => 227 | 3 => 3 | 39 => 90 | 0 => 0 | 53 => 48 | 55 => 258 | 4 => 4 | 46 => 252 | 45 => 251 | 50 => 121 | 5 => 5 | 9 => 9 | 66 => 263 | 70 => 267 | 76 => 273 | 77 => 274 | n => n, fun | n => n⟩
theorem Tryz.sortEnt : Go.Proofs.SlLaysF0.n6 Tryz.prog Tryz.sortEnt_ren := {
 mixed := by kernel_rfl
 f6 := ⟨Tryz.f121.name, by decide, Tryz.func121.trans (congrArg some (by kernel_rfl))⟩
 f14 := ⟨Tryz.f143.name, by decide, Tryz.func143.trans (congrArg some (by kernel_rfl))⟩
 f15 := Tryz.func144.trans (congrArg some (by kernel_rfl))
 f20 := ⟨Tryz.f151.name, by decide, Tryz.func151.trans (congrArg some (by kernel_rfl))⟩
 f21 := ⟨Tryz.f152.name, by decide, Tryz.func152.trans (congrArg some (by kernel_rfl))⟩
 f22 := ⟨Tryz.f153.name, by decide, Tryz.func153.trans (congrArg some (by kernel_rfl))⟩
 f23 := ⟨Tryz.f154.name, by decide, Tryz.func154.trans (congrArg some (by kernel_rfl))⟩
 f24 := ⟨Tryz.f155.name, by decide, Tryz.func155.trans (congrArg some (by kernel_rfl))⟩
 f25 := ⟨Tryz.f156.name, by decide, Tryz.func156.trans (congrArg some (by kernel_rfl))⟩
 f26 := ⟨Tryz.f157.name, by decide, Tryz.func157.trans (congrArg some (by kernel_rfl))⟩
 f27 := ⟨Tryz.f158.name, by decide, Tryz.func158.trans (congrArg some (by kernel_rfl))⟩
 f28 := Tryz.func159.trans (congrArg some (by kernel_rfl))
 f29 := Tryz.func160.trans (congrArg some (by kernel_rfl))
 f46 := ⟨Tryz.f165.name, by decide, Tryz.func165.trans (congrArg some (by kernel_rfl))⟩
 f47 := Tryz.func166.trans (congrArg some (by kernel_rfl))
 f48 := Tryz.func167.trans (congrArg some (by kernel_rfl))
 f49 := ⟨Tryz.f168.name, by decide, Tryz.func168.trans (congrArg some (by kernel_rfl))⟩
 f50 := ⟨Tryz.f169.name, by decide, Tryz.func169.trans (congrArg some (by kernel_rfl))⟩
 f57 := ⟨Tryz.f174.name, by decide, Tryz.func174.trans (congrArg some (by kernel_rfl))⟩
 t0 := Tryz.underlying0
 a0 := Tryz.isAgg0
 z0 := Tryz.sizeOf0
 v0 := Tryz.zeroValue0
 t3 := Tryz.underlying3
 a3 := Tryz.isAgg3
 z3 := Tryz.sizeOf3
 v3 := Tryz.zeroValue3
 t4 := Tryz.underlying4
 a4 := Tryz.isAgg4
 z4 := Tryz.sizeOf4
 v4 := Tryz.zeroValue4
 t5 := Tryz.underlying5
 a5 := Tryz.isAgg5
 z5 := Tryz.sizeOf5
 v5 := Tryz.zeroValue5
 t9 := Tryz.underlying9
 a9 := Tryz.isAgg9
 z9 := Tryz.sizeOf9
 v9 := Tryz.zeroValue9
 t22 := Tryz.underlying41
 a22 := Tryz.isAgg41
 z22 := Tryz.sizeOf41
 v22 := Tryz.zeroValue41
 t25 := Tryz.underlying227
 a25 := Tryz.isAgg227
 z25 := Tryz.sizeOf227
 v25 := Tryz.zeroValue227
 t39 := Tryz.underlying90
 a39 := Tryz.isAgg90
 z39 := Tryz.sizeOf90
 v39 := Tryz.zeroValue90
 t45 := Tryz.underlying251
 a45 := Tryz.isAgg251
 z45 := Tryz.sizeOf251
 v45 := Tryz.zeroValue251
 t46 := Tryz.underlying252
 a46 := Tryz.isAgg252
 z46 := Tryz.sizeOf252
 v46 := Tryz.zeroValue252
 t50 := Tryz.underlying121
 a50 := Tryz.isAgg121
 z50 := Tryz.sizeOf121
 v50 := Tryz.zeroValue121
 t53 := Tryz.underlying48
 a53 := Tryz.isAgg48
 z53 := Tryz.sizeOf48
 v53 := Tryz.zeroValue48
 t55 := Tryz.underlying258
 a55 := Tryz.isAgg258
 z55 := Tryz.sizeOf258
 v55 := Tryz.zeroValue258
 t66 := Tryz.underlying263
 a66 := Tryz.isAgg263
 z66 := Tryz.sizeOf263
 v66 := Tryz.zeroValue263
 t70 := Tryz.underlying267
 a70 := Tryz.isAgg267
 z70 := Tryz.sizeOf267
 v70 := Tryz.zeroValue267
 t76 := Tryz.underlying273
 a76 := Tryz.isAgg273
 z76 := Tryz.sizeOf273
 v76 := Tryz.zeroValue273
 t77 := Tryz.underlying274
 a77 := Tryz.isAgg274
 z77 := Tryz.sizeOf274
 v77 := Tryz.zeroValue274 }
end Go.Proofs
namespace Go.Proofs.YtnlcbheidiigaaaGreatDoor.So
open Go.RowKit Go.Shelf Go.Maps
open At (St cell_blk blk_free)
open Ro (Ents entCells entCells_len)
def encE (x : Nat × Nat) : List Value := [.int .i64 (x.1 : Int), .int .i64 (x.2 : Int)]
def cmpE (x y : Nat × Nat) : Int := if x.1 < y.1 then -1 else if y.1 < x.1 then 1 else 0
theorem ltE (x y : Nat × Nat) : ltOf cmpE x y = decide (x.1 < y.1) := by
 unfold ltOf cmpE
 by_cases h1 : x.1 < y.1
 ·simp [h1]
 ·by_cases h2 : y.1 < x.1 <;> simp [h1, h2]
theorem swoE : Sort.SWO (ltOf cmpE) :=
 ⟨fun x => by rw [ltE]; simp, fun x y z h1 h2 => by rw [ltE] at *; simp at *; omega, fun x y z h1 h2 => by rw [ltE] at *; simp at *; omega⟩
set_option maxHeartbeats 800000 in
theorem nan_any (x : Int) (W : World) : Calls Tryz.prog 145 #[.int .i64 x] W fun e W' => e = .returned (.bool false) ∧ W' = W := by
 go_enter Tryz.func145, Tryz.ntmps145
 go_wp2_with fail
 go_ret
 exact ⟨by simp, rfl⟩
set_option maxHeartbeats 1600000 in
set_option maxRecDepth 100000 in
theorem compare_any (x y : Nat × Nat) (W : World) : Calls Tryz.prog 123 #[.int .i64 (x.1 : Int), .int .i64 (y.1 : Int)] W fun e W' => e = .returned (.int .i64 (cmpE x y)) ∧ W' = W := by
 have NN := hid nan_any
 obtain ⟨r, hr⟩ : ∃ r, r = cmpE x y := ⟨_, rfl⟩
 rw [← hr]
 unfold cmpE at hr
 obtain ⟨a, ha⟩ : ∃ a, a = x.1 := ⟨_, rfl⟩
 obtain ⟨b, hb⟩ : ∃ b, b = y.1 := ⟨_, rfl⟩
 rw [← ha, ← hb] at hr ⊢
 clear ha hb
 by_cases h1 : a < b
 ·have h1' : (a : Int) < (b : Int) := by omega
  rw [if_pos h1] at hr
  subst hr
  clear h1
  go_enter Tryz.func123, Tryz.ntmps123
  go_wp2_with (go_at_call 145; refine (NN.out _ _).mono ?_; rintro e w' ⟨rfl, hq⟩; obtain rfl := hq.symm)
  go_ret
  exact ⟨rfl, rfl⟩
 ·have h1' : ¬ ((a : Int) < (b : Int)) := by omega
  rw [if_neg h1] at hr
  by_cases h2 : b < a
  ·have h2' : (b : Int) < (a : Int) := by omega
   rw [if_pos h2] at hr
   subst hr
   clear h1 h2
   go_enter Tryz.func123, Tryz.ntmps123
   go_wp2_with (go_at_call 145; refine (NN.out _ _).mono ?_; rintro e w' ⟨rfl, hq⟩; obtain rfl := hq.symm)
   go_ret
   exact ⟨rfl, rfl⟩
  ·have h2' : ¬ ((b : Int) < (a : Int)) := by omega
   rw [if_neg h2] at hr
   subst hr
   clear h1 h2
   go_enter Tryz.func123, Tryz.ntmps123
   go_wp2_with (go_at_call 145; refine (NN.out _ _).mono ?_; rintro e w' ⟨rfl, hq⟩; obtain rfl := hq.symm)
   go_ret
   exact ⟨rfl, rfl⟩
set_option maxHeartbeats 1600000 in
set_option maxRecDepth 100000 in
theorem gather1_any (x y : Nat × Nat) (W : World) : Calls Tryz.prog 122 #[.agg #[.int .i64 (x.1 : Int), .int .i64 (x.2 : Int)], .agg #[.int .i64 (y.1 : Int), .int .i64 (y.2 : Int)]] W fun e w' => e = .returned (.int .i64 (cmpE x y)) ∧ ∃ q os', w' = Sort.grow (W.drewN q) os' := by
 have CC := hid (compare_any x y)
 generalize cmpE x y = r at CC ⊢
 go_enter Tryz.func122, Tryz.ntmps122
 go_wp2_with (go_at_call 123; refine (CC.out _).mono ?_; rintro e w' ⟨rfl, hq⟩; obtain rfl := hq.symm)
 go_ret
 exact ⟨rfl, 0, _, by rw [Sort.alloc_eq_grow, Sort.alloc_eq_grow, Sort.grow_grow]; rfl⟩
theorem enters_gather1 : ∀ args w, (callFunc 122 args).run Tryz.prog w = .ok (.enter 122 args) w := enters_of Tryz.func122 (by kernel_rfl) rfl
theorem flat_at (l : List (Nat × Nat)) (t : Nat) (ht : t < l.length * 2) : (entCells l)[t]? = some (Sort.flatK encE 2 l.toArray)[t]! := by
 rw [Sort.get_flatK encE 2 l.toArray t (by simpa using ht)]
 have hj : t / 2 < l.length := by omega
 obtain ⟨p, hp⟩ := at_lt l (t / 2) hj
 obtain ⟨e0, e1⟩ := ent_at hp
 have hg : l.toArray[t / 2]! = p := by
  rw [getElem!_pos l.toArray (t / 2) (by simpa using hj)]
  obtain ⟨h, e⟩ := List.getElem?_eq_some_iff.1 hp
  simpa using e
 rw [hg]
 obtain ⟨j, hj2⟩ : ∃ j, j = t / 2 := ⟨_, rfl⟩
 rw [← hj2] at e0 e1
 rcases Nat.mod_two_eq_zero_or_one t with h | h
 ·rw [h, show t = j * 2 by omega, e0]; rfl
 ·rw [h, show t = j * 2 + 1 by omega, e1]; rfl
theorem ents_blk {N : Nat} {W : World} {g n cap : Nat} {l : List (Nat × Nat)} (h : Ents N W (.slice (some ⟨g, 0, none⟩) n cap) l) : n = l.length ∧ N ≤ g ∧ ∃ cur, W.heap[g]? = some (.cells cur 43 (0, 0)) ∧ l.length ≤ cap ∧ cap ≤ maxLen ∧ cur.size = cap * 2 ∧ cur.toList.take (l.length * 2) = entCells l := by
 obtain ⟨-, h | ⟨g', cap', cur, e, h1, h2, h3, h4, h5, h6⟩⟩ := (h : World.ownsRow _ _ _ _ _ _ _)
 ·simp at h
 ·obtain ⟨rfl, rfl, rfl⟩ : g = g' ∧ n = l.length ∧ cap = cap' := by simpa using e
  exact ⟨rfl, h1, cur, h2, h3, h4, h5, h6⟩
theorem sort_ents {N : Nat} {W : World} {g n cap : Nat} {l : List (Nat × Nat)} (h : Ents N W (.slice (some ⟨g, 0, none⟩) n cap) l) (hl : l.length ≤ 1000) :
  Calls Tryz.prog 121 #[.slice (some ⟨g, 0, none⟩) n cap, .func (.func 122) #[] #[]] W fun e W' => e = .returned (.tuple #[]) ∧ ∃ l', l'.Perm l ∧ l'.Pairwise (fun x y => x.1 ≤ y.1) ∧ Ents N W' (.slice (some ⟨g, 0, none⟩) n cap) l' ∧ St (fun k => k = g) W W' := by
 obtain ⟨rfl, h1, cur, h2, h3, h4, h5, h6⟩ := ents_blk h
 have hg : g < W.heap.size := (Array.getElem?_eq_some_iff.1 h2).1
 have hle : l.length * 2 ≤ cur.size := by rw [h5]; exact Nat.mul_le_mul_right 2 h3
 have hH : Sort.HoldsK encE 2 W g 0 l.toArray := by
  intro t ht
  have ht' : t < l.length * 2 := by simpa using ht
  rw [Nat.zero_add]
  refine ⟨?_, blk_free h2 t⟩
  have := flat_at l t ht'
  rw [← h6, List.getElem?_take_of_lt ht'] at this
  exact cell_blk h2 (by rw [← Array.getElem?_toList]; exact this)
 have hcmp : CmpLays Tryz.prog 122 #[] encE 2 cmpE g 0 l.toArray.size W := fun _ _ _ _ x y => gather1_any x y _
 have hcon := AnyQ.slices_SortFunc Tryz.sortEnt 2 Tryz.isAgg43 Tryz.sizeOf43 encE (fun _ => rfl) (fun x v hv => by simp [encE] at hv; rcases hv with rfl | rfl <;> rfl) cmpE swoE 122 #[] g 0 cap l.toArray W enters_gather1 hcmp hH hg (by simp; omega)
 have hcon' : Calls Tryz.prog 121 #[.slice (some ⟨g, 0, none⟩) l.length cap, .func (.func 122) #[] #[]] W _ := hcon
 refine hcon'.mono ?_
 rintro e W' ⟨rfl, d', m, os, hp, hs, rfl⟩
 have hsz : d'.size = l.length := by simpa using hp.1
 have hperm : d'.toList.Perm l := by
  have := hp.2.2
  simp at this
  rwa [List.take_of_length_le (by simp [hsz])] at this
 have hdl : d'.toList.length = l.length := by simpa using hsz
 refine ⟨rfl, d'.toList, hperm, ?_, ?_, ?_⟩
 ·rw [List.pairwise_iff_getElem]
  intro i j hi hj hij
  have q := hs i j (Nat.zero_le _) hij (by simp; omega)
  rw [ltE] at q
  simp at q hi hj
  rw [getElem!_pos d' i hi, getElem!_pos d' j hj] at q
  simpa using q
 ·have hb : (sortWorldK encE 2 W g 0 m d' os).heap[g]? = some (.cells (Sort.putCells id 0 (Sort.flatK encE 2 d') cur) 43 (0, 0)) := by
   unfold sortWorldK
   rw [Sort.heap_grow_old _ _ (by unfold Sort.putRowK; simpa using hg)]
   simp [Sort.putRowK, Sort.putRow, Sort.mapBlock, Sort.ahead, Array.getElem?_modify, h2, Sort.onCells]
  refine ⟨?_, .inr ⟨g, cap, _, by rw [hdl], h1, hb, by omega, h4, by simp [Sort.putCells, h5], ?_⟩⟩
  ·rw [entCells_len]
  ·refine List.ext_getElem? fun t => ?_
   by_cases ht : t < d'.toList.length * 2
   ·rw [List.getElem?_take_of_lt ht, flat_at _ _ ht, Array.getElem?_toList]
    have : t < cur.size := by omega
    simp only [Sort.putCells, Array.getElem?_mapIdx]
    rw [Array.getElem?_eq_getElem this]
    simp at ht
    simp [ht]
   ·rw [List.getElem?_take_eq_none (by omega), List.getElem?_eq_none (by rw [entCells_len]; omega)]
 ·refine ⟨rfl, rfl, rfl, ?_, fun k hk hn => ?_⟩
  ·unfold sortWorldK Sort.putRowK; simp [Sort.ahead]
  ·unfold sortWorldK
   rw [Sort.heap_grow_old _ _ (by unfold Sort.putRowK; simpa using hk)]
   have : g ≠ k := fun e => hn e.symm
   simp [Sort.putRowK, Sort.putRow, Sort.mapBlock, Sort.ahead, Array.getElem?_modify, this]
end Go.Proofs.YtnlcbheidiigaaaGreatDoor.So
namespace Go.Proofs.YtnlcbheidiigaaaGreatDoor.So
open Go.RowKit Go.Shelf Go.Maps
open At (St)
open Ro (Ents)
set_option maxHeartbeats 1600000 in
set_option maxRecDepth 100000 in
theorem ins_none (v fv : Value) (W : World) : Calls Tryz.prog 151 #[v, .int .i64 0, .int .i64 0, fv] W fun e W' => e = .returned (.tuple #[]) ∧ W' = W := by
 go_enter Tryz.func151, Tryz.ntmps151
 go_wp2_with fail
 go_loop [8] (fun i => i = .int .i64 1) (fun _ => 0)
 case atStart => rfl
 case round =>
  obtain rfl := hrel
  go_wp2_with fail
  go_end0
  exact ⟨rfl, rfl⟩
set_option maxHeartbeats 1600000 in
set_option maxRecDepth 100000 in
theorem pdq_none (v fv lv : Value) (W : World) : Calls Tryz.prog 143 #[v, .int .i64 0, .int .i64 0, lv, fv] W fun e W' => e = .returned (.tuple #[]) ∧ W' = W := by
 have IN := hid (ins_none v fv)
 go_enter Tryz.func143, Tryz.ntmps143
 go_wp2_with fail
 go_loop [1, 2] (fun a b => a = .int .i64 0 ∧ b = .int .i64 0) (fun _ _ => 0)
 case atStart => exact ⟨rfl, rfl⟩
 case round =>
  obtain ⟨rfl, rfl⟩ := hrel
  go_wp2_with (go_at_call 151; refine (IN.out _).mono ?_; rintro e w' ⟨rfl, hq⟩; obtain rfl := hq.symm)
  exact bodyPost_ret (v := .tuple #[]) (by simp [results, Tryz.results143, go_sem]) rfl ⟨rfl, rfl⟩
theorem len_zero (W : World) : ∃ r : Int, Calls Tryz.prog 144 #[.int .u64 0] W fun e W' => e = .returned (.int .i64 r) ∧ W' = W :=
 ⟨_, Any.bits_Len (SlLaysF0.n15.bits (P := Tryz.prog) (ρ := Tryz.sortEnt_ren) { Tryz.sortEnt with }) 0 W (by omega) (by omega)⟩
set_option maxHeartbeats 1600000 in
set_option maxRecDepth 100000 in
theorem sort_nil (fv : Value) (W : World) : Calls Tryz.prog 121 #[.slice none 0 0, fv] W fun e W' => e = .returned (.tuple #[]) ∧ W' = W := by
 obtain ⟨r, hr⟩ := len_zero W
 have LN := hid hr
 have PQ := hid (pdq_none (.slice none 0 0) fv (.int .i64 r))
 clear hr
 go_enter Tryz.func121, Tryz.ntmps121
 go_wp2_with (first | (go_at_call 144; refine LN.out.mono ?_; rintro e w' ⟨rfl, hq⟩; obtain rfl := hq.symm) | (go_at_call 143; refine (PQ.out _).mono ?_; rintro e w' ⟨rfl, hq⟩; obtain rfl := hq.symm))
 go_end0
 exact ⟨rfl, rfl⟩
theorem sort_any {N : Nat} {W : World} {v : Value} {l : List (Nat × Nat)} (h : Ents N W v l) (hl : l.length ≤ 1000) :
  Calls Tryz.prog 121 #[v, .func (.func 122) #[] #[]] W fun e W' => e = .returned (.tuple #[]) ∧ ∃ l', l'.Perm l ∧ l'.Pairwise (fun x y => x.1 ≤ y.1) ∧ Ents N W' v l' ∧ St (fun k => v.ownBlock = some k) W W' := by
 rcases h.2 with ⟨rfl, h0⟩ | ⟨g, cap, cur, rfl, -⟩
 ·refine (sort_nil _ W).mono ?_
  rintro e W' ⟨rfl, rfl⟩
  obtain rfl := List.length_eq_zero_iff.1 h0
  exact ⟨rfl, [], List.Perm.refl _, List.Pairwise.nil, h, St.of_below (Below.refl _ _)⟩
 ·refine (sort_ents h hl).mono ?_
  rintro e W' ⟨rfl, l', h1, h2, h3, h4⟩
  exact ⟨rfl, l', h1, h2, h3, ⟨h4.os, h4.tape, h4.output, h4.size, fun k hk hn => h4.block k hk fun e => hn (by rw [e]; rfl)⟩⟩
end Go.Proofs.YtnlcbheidiigaaaGreatDoor.So
namespace Go.Proofs.YtnlcbheidiigaaaGreatDoor.So
open Go.RowKit Go.Shelf Go.Maps
open At (few_of)
open Ro (Ents entCells entCells_len infoEnt)
open Rs (SD)
theorem ent_one (l : List (Nat × Nat)) : ∀ u ∈ entCells l, u.oneCell' = true := by
 intro u hu
 simp only [entCells, List.mem_flatMap] at hu
 obtain ⟨p, _, hp⟩ := hu
 simp [Ro.gI] at hp
 rcases hp with rfl | rfl <;> rfl
theorem entCells_app (l m : List (Nat × Nat)) : entCells (l ++ m) = entCells l ++ entCells m := by simp [entCells]
theorem run_ents {B N : Nat} {wc : World} {v sv : Value} {xs ns : List (Nat × Nat)} (hown : Ents N wc v xs) (hsrc : Ents B wc sv ns) (hl : xs.length + ns.length ≤ 2000) (hN : N ≤ wc.heap.size) (ty : TypeId) :
  ∃ v' w', (Builtin.append_ #[41, 41] ty #[v, sv]).run Tryz.prog wc = .ok v' w' ∧ Ents N w' v' (xs ++ ns) ∧ wc.grownBy w' v.ownBlock := by
 obtain ⟨i0, hi, hz0, hz1, hz2⟩ := info_parts infoEnt
 rcases hsrc.2 with ⟨h1, h2⟩ | ⟨g, cap, cur, h1, h2, h3, h4, h5, h6, h7⟩
 ·have hn : ns = [] := List.eq_nil_of_length_eq_zero h2
  subst hn
  rw [h1]
  refine ⟨v, wc, run_append_owned_none wc N 41 ty 43 i0 2 Tryz.underlying41 hi v xs.length (entCells xs) hown, by rw [List.append_nil]; exact hown, ⟨rfl, rfl, rfl, Nat.le_refl _, fun _ _ _ => rfl⟩⟩
 ·rw [h1]
  have hc := hsrc
  rw [h1] at hc
  obtain ⟨v', w', hr, h8, h9, -, -⟩ := run_append_own_at (P := Tryz.prog) wc N 41 ty 43 i0 (.agg #[.int .i64 0, .int .i64 0]) 2 16 Tryz.underlying41 hi hz0 hz1 hz2 rfl (by decide) v xs.length (entCells xs) hown ⟨g, 0, none⟩ ns.length cap (entCells ns) (entCells_len ns) (fun j u hu => by
   rw [add_at]
   have hj : j < ns.length * 2 := by have := (List.getElem?_eq_some_iff.1 hu).1; rw [entCells_len] at this; exact this
   rw [World.ownsRow.cellAt hc j hj]; exact hu) (ent_one ns) (by unfold maxLen; omega) (by omega) hN
  refine ⟨v', w', hr, ?_, h9⟩
  show World.ownsRow _ _ _ _ _ _ _
  rw [entCells_app, List.length_append]
  exact h8
theorem wpList_ents {ops : Array Oper} {rest : List Oper} {o : Oper} {a : Act} {Q : Exit → Act → World → Prop} (hgd : o.guard = none) (s x : Operand)
  (ho : o.op = .call { callee := .builtin .append, args := #[s, x], argTypes := #[41, 41] }) {B N : Nat} {wc : World} {v sv : Value} {xs ns : List (Nat × Nat)} (hown : Ents N wc v xs) (hsrc : Ents B wc sv ns) (hl : xs.length + ns.length ≤ 2000) (hN : N ≤ wc.heap.size) (hs : a.eval s = v) (hx : a.eval x = sv)
  (h : ∀ v' w4, Hid (Ents N w4 v' (xs ++ ns)) → Hid (wc.grownBy w4 v.ownBlock) → wpList Tryz.prog ops Q rest (a.put o.dst v') w4) :
  wpList Tryz.prog ops Q (o :: rest) a wc := by
 refine wpList_plain hgd fun K hK => ?_
 obtain ⟨v', w', hr, h2, h3⟩ := run_ents hown hsrc hl hN o.type
 unfold Oper.wp
 simp [execOp, ho, resolve, invoke, builtin, hs, hx, hr, Result.andThen]
 exact hK _ _ (h v' w' h2 h3)
structure Gt (tab : Nat → Option (List (Nat × Nat))) (mt : Nat → List (Nat × Nat)) (left : Lit → Bool) (l : List (Nat × Nat)) : Prop where
 mem : ∀ x, x ∈ l ↔ ∃ n own, tab n = some own ∧ left (.int .i64 (n : Int)) = false ∧ x ∈ mt n
 ap : l.Pairwise (fun x y => x.1 ≠ y.1)
structure Mn (tab : Nat → Option (List (Nat × Nat))) (mt : Nat → List (Nat × Nat)) : Prop where
 sub : ∀ n own, tab n = some own → ∀ x ∈ mt n, x ∈ own
 ap : ∀ n own, tab n = some own → (mt n).Pairwise (fun x y => x.1 ≠ y.1)
 one : ∀ n own n' own', tab n = some own → tab n' = some own' → ∀ x ∈ own, ∀ y ∈ own', x.1 = y.1 → n = n'
theorem Gt.step {tab : Nat → Option (List (Nat × Nat))} {mt : Nat → List (Nat × Nat)} {left : Lit → Bool} {l : List (Nat × Nat)} (hm : Mn tab mt) (h : Gt tab mt left l) {n : Nat} {own : List (Nat × Nat)} (hn : tab n = some own) (hl : left (.int .i64 (n : Int)) = true) : Gt tab mt (fun z => left z && !z.sameKey (.int .i64 (n : Int))) (l ++ mt n) := by
 refine ⟨fun x => ?_, List.pairwise_append.2 ⟨h.ap, hm.ap n own hn, fun x hx y hy e => ?_⟩⟩
 ·rw [List.mem_append, h.mem x]
  constructor
  ·rintro (⟨k, o, e1, e2, e3⟩ | hx)
   ·exact ⟨k, o, e1, by simp [e2], e3⟩
   ·exact ⟨n, own, hn, by simp [Lit.sameKey], hx⟩
  ·rintro ⟨k, o, e1, e2, e3⟩
   by_cases e : k = n
   ·subst e; exact .inr e3
   ·refine .inl ⟨k, o, e1, ?_, e3⟩
    have : (Lit.int .i64 (k : Int)).sameKey (.int .i64 (n : Int)) = false := by simp [Lit.sameKey]; omega
    simpa [this] using e2
 ·obtain ⟨k, o, e1, e2, e3⟩ := (h.mem x).1 hx
  obtain rfl := hm.one k o n own e1 hn x (hm.sub k o e1 x e3) y (hm.sub n own hn y hy) e
  rw [e2] at hl
  cases hl
theorem Gt.few {tab : Nat → Option (List (Nat × Nat))} {mt : Nat → List (Nat × Nat)} {left : Lit → Bool} {l : List (Nat × Nat)} {N : Nat} (hm : Mn tab mt) (h : Gt tab mt left l) (hN : ∀ n own, tab n = some own → ∀ x ∈ own, x.1 < N) : l.length ≤ N := by
 have hnd : (l.map fun x => x.1).Nodup := by rw [List.Nodup, List.pairwise_map]; exact h.ap
 have := few_of (N := N) hnd fun x hx => by
  obtain ⟨p, hp, rfl⟩ := List.mem_map.1 hx
  obtain ⟨k, o, e1, e2, e3⟩ := (h.mem p).1 hp
  exact hN k o e1 p (hm.sub k o e1 p e3)
 simpa using this
theorem Mn.of {ex : Option Nat} {tab : Nat → Option (List (Nat × Nat))} {seat : List (Nat × Nat)} {s : SD} {mt : Nat → List (Nat × Nat)} (h : Lk ex tab seat s) (hsub : ∀ n own, tab n = some own → (mt n).Sublist own) : Mn tab mt := by
 have one : ∀ n own n' own', tab n = some own → tab n' = some own' → ∀ x ∈ own, ∀ y ∈ own', x.1 = y.1 → n = n' := fun n own n' own' h1 h2 x hx y hy e => by
  obtain ⟨j, hj⟩ := List.getElem?_of_mem hx
  obtain ⟨j', hj'⟩ := List.getElem?_of_mem hy
  obtain ⟨a, b⟩ := x
  obtain ⟨a', b'⟩ := y
  change a = a' at e
  subst e
  exact (h.one h1 h2 hj hj').1
 refine ⟨fun n own hn x hx => (hsub n own hn).subset hx, fun n own hn => List.Pairwise.sublist (hsub n own hn) ?_, one⟩
 rw [List.pairwise_iff_getElem]
 intro i j hi hj hij e
 have e1 := List.getElem?_eq_getElem hi
 have e2 := List.getElem?_eq_getElem hj
 generalize own[i] = x at e e1
 generalize own[j] = y at e e2
 obtain ⟨a, b⟩ := x
 obtain ⟨a', b'⟩ := y
 change a = a' at e
 subst e
 have := (h.one hn hn e1 e2).2
 omega
end Go.Proofs.YtnlcbheidiigaaaGreatDoor.So
namespace Go.Proofs.YtnlcbheidiigaaaGreatDoor.So
open Go.RowKit Go.Shelf Go.Maps
open Co (I64_mid keyed3)
open At (St)
open Ro (Ents)
open Rs (SD)
theorem next_tab {D : DataW Unit} {tab : Nat → Option (List (Nat × Nat))} {tv : Nat → TV} (hH : PHolds D (tabMap tab tv)) {x : Int} {kl : Lit} {o : Option Nat} {y : DataW Unit × List MemPlace} (hk : keyOf Tryz.prog 3 (.int .i64 x) = some kl) (hR : ptrElem (ptrV o) = some y) (hat : ∀ zd, D.atKey kl zd = y.1) :
  ∃ (n : Nat) (own : List (Nat × Nat)), kl = .int .i64 (n : Int) ∧ x = (n : Int) ∧ tab n = some own ∧ o = some (tv n).tb := by
 obtain ⟨x', e1, rfl, hw⟩ := Maps.keyOf_int_inv Tryz.underlying3 hk
 obtain rfl : x = x' := by simpa using e1
 obtain ⟨h1, h2⟩ := hH x hw
 rw [has_true_of_atKey hat] at h1
 rw [hat .nil] at h2
 rw [ptrElem_mk] at hR
 obtain rfl : (ptrD o, []) = y := by simpa using hR
 have e3 := ptrD_inj h2
 obtain ⟨b, hb⟩ := Option.isSome_iff_exists.1 h1.symm
 rw [hb] at e3
 unfold lk at hb
 split at hb
 ·rename_i h0
  unfold tabMap at hb
  cases ht : tab x.toNat with
  | none => rw [ht] at hb; cases hb
  | some own =>
   rw [ht] at hb
   have hx : x = (x.toNat : Int) := by omega
   refine ⟨x.toNat, own, by rw [← hx], hx, ht, ?_⟩
   rw [e3]
   exact hb.symm
 ·cases hb
set_option maxHeartbeats 3200000 in
set_option maxRecDepth 100000 in
theorem gather_any (fk : Nat) (lb : Array Value) (eg : ∀ args w, (callFunc fk args).run Tryz.prog w = .ok (.enter fk args) w) {B : Nat} {W : World} {sb : Nat} {c : CV} {s : SD} (h : Sto none B W sb c s) (mt : Nat → List (Nat × Nat)) (hmt : ∀ n own, c.tab n = some own → (mt n).Sublist own)
  (HC : ∀ n own, c.tab n = some own → ∀ W', Below W.heap.size W W' → Calls Tryz.prog fk (#[.pointer (some ⟨(c.tv n).tb, 0, none⟩)] ++ lb) W' fun e W2 => ∃ v, e = .returned v ∧ Ents 0 W2 v (mt n) ∧ Below W'.heap.size W' W2) :
  Calls Tryz.prog 85 #[.pointer (some ⟨sb, 0, none⟩), .func (.func fk) #[] lb] W fun e W' => ∃ v l, e = .returned v ∧ Ents W.heap.size W' v l ∧ l.Pairwise (fun x y => x.1 < y.1) ∧ (∀ x, x ∈ l ↔ ∃ n own, c.tab n = some own ∧ x ∈ mt n) ∧ Below W.heap.size W W' := by
 have c2 := h.c2
 obtain ⟨D, hown, hH⟩ := h.map
 have MN := hid (Mn.of h.lk hmt)
 have htm := hown.lt
 have HN : Hid (∀ n own, c.tab n = some own → ∀ x ∈ own, x.1 < 64) := fun n own hn x hx => by
  obtain ⟨j, hj⟩ := List.getElem?_of_mem hx
  obtain ⟨a, b⟩ := x
  have q := al_lt ((h.lk.back n own hn).2 j a b hj).1
  have := h.rol.small
  show a < 64
  omega
 have G0 : Hid (Gt c.tab mt (Maps.has D) []) := ⟨fun x => ⟨fun q => by simp at q, fun ⟨n, own, e1, e2, e3⟩ => by
  obtain ⟨m, e4, -⟩ := h.tabs n own e1
  have hn := (List.getElem?_eq_some_iff.1 e4).1
  have hs := At.AS.ok.small h.atl.ok
  have hs' : s.sets.length ≤ 65536 := hs
  have := (hH (n : Int) (I64_mid (by omega) (by omega))).1
  rw [e2, lk_nat] at this
  unfold tabMap at this
  rw [e1] at this
  cases this⟩, List.Pairwise.nil⟩
 have HH := hid hH
 have HCC := hid HC
 obtain ⟨nn, hnn⟩ : ∃ nn, nn = Maps.size D := ⟨_, rfl⟩
 rw [← hnn] at hown
 clear h HC hmt hH hnn
 go_enter Tryz.func85, Tryz.ntmps85
 go_wp2_with (first
  | (at_range; refine wpList_range_own _ rfl _ 109 rfl 3 142 keyed3 Tryz.underlying109 ptrElem c.tm nn D rfl hown ?_; intro w0 hrg0 hg0 hs0)
  | fail)
 go_frame
 have B0 : Hid (Below W.heap.size W w0) := ⟨hg0.os, hg0.tape, hg0.output, hg0.size, fun k hk => hg0.block k hk (by simp)⟩
 have hsz0 : W.heap.size + 1 ≤ w0.heap.size := by omega
 have RG0 := hid hrg0
 clear hrg0 hg0 hs0 hown c2
 go_loopg [5, 7] (Maps.size D) (fun gh lv _ wr => ∃ (left : Lit → Bool) (l : List (Nat × Nat)), Hid (wr.ranges Tryz.prog 3 ptrElem c.tm W.heap.size nn D left gh) ∧ Hid (Ents (W.heap.size + 1) wr lv l) ∧ Hid (Gt c.tab mt left l) ∧ Hid (Below W.heap.size W wr) ∧ W.heap.size + 1 ≤ wr.heap.size)
 case atStart => exact ⟨_, [], RG0.out, World.ownsRow_nil _ _ _ _, G0.out, B0.out, hsz0⟩
 case round =>
  obtain ⟨left, l, HR, HE, HG, HB, hsz⟩ := hrel
  have hrg := HR.out
  go_wp2_with (first
   | (at_next; refine wpList_next_ranges _ rfl _ rfl 3 keyed3 ptrElem (Value.int .i64) ptrV (fun key kl hkey => by obtain ⟨x, rfl, _⟩ := Maps.keyOf_int_inv Tryz.underlying3 hkey; exact ⟨x, rfl⟩) (fun v y hv => by obtain ⟨x, rfl, _⟩ := ptrElem_inv hv; exact ⟨x, rfl⟩) c.tm W.heap.size nn D left _ rfl hrg ?_ ?_)
   | fail)
  ·intro hc0 hl0
   have GE := HG.out
   have hl64 := GE.few MN.out HN.out
   have SRT := hid (sort_any HE.out (by omega))
   have HL0 := hid hl0
   clear hrg hl0 hc0 GE
   go_wp2_with (go_at_call 121; refine SRT.out.mono ?_; rintro e w2 ⟨rfl, l', p1, p2, p3, p4⟩)
   go_ret
   refine ⟨_, l', rfl, World.ownsRow.mono p3 (Nat.le_succ _), ?_, fun x => ?_, ?_⟩
   ·have hap : l'.Pairwise (fun x y => x.1 ≠ y.1) := (p1.pairwise_iff (fun q => Ne.symm q)).2 HG.out.ap
    exact (p2.and hap).imp fun ⟨q1, q2⟩ => by omega
   ·rw [p1.mem_iff, HG.out.mem x]
    exact ⟨fun ⟨n, own, e1, _, e3⟩ => ⟨n, own, e1, e3⟩, fun ⟨n, own, e1, e3⟩ => ⟨n, own, e1, HL0.out _, e3⟩⟩
   ·exact HB.out.trans (p4.below (B := W.heap.size) (fun k hk => by have := (World.ownsRow.lt HE.out k hk).1; omega) (by omega))
  ·intro x o kl y ps w1 cnt1 hkey hleft hR hat hrg1 hlt hg1 hs1 hen
   obtain ⟨n, own, rfl, rfl, htab, rfl⟩ := next_tab HH.out hkey hR hat
   have B1 : Below W.heap.size W w1 := HB.out.trans ⟨hg1.os, hg1.tape, hg1.output, hg1.size, fun k hk => hg1.block k (by omega) (by simp; omega)⟩
   have CC := hid (HCC.out n own htab w1 B1)
   have HB1 := hid B1
   have hne : ∀ k, u5.ownBlock = some k → W.heap.size + 1 ≤ k := fun k hk => (World.ownsRow.lt HE.out k hk).1
   have E1 : Hid (Ents (W.heap.size + 1) w1 u5 l) := World.ownsRow.kept HE.out hg1 (by
    cases hob : u5.ownBlock with
    | none => exact Or.inl rfl
    | some g => exact Or.inr (fun e => by have := hne g hob; simp at e; omega))
   have G1 := hid (HG.out.step MN.out htab hleft)
   have RG1 := hid hrg1
   have hsz1 : W.heap.size + 1 ≤ w1.heap.size := by omega
   obtain ⟨tb, htb⟩ : ∃ tb, tb = (c.tv n).tb := ⟨_, rfl⟩
   rw [← htb] at CC hen ⊢
   dsimp only [ptrV] at hen ⊢
   clear hrg hrg1 hkey hR hat hleft hg1 hs1 B1 htb
   go_wp2_with fail
   refine CC.out.mono ?_
   rintro e w2 ⟨v, rfl, hv, hb⟩
   have E2 := hid (Ents.later E1.out hb)
   have V2 := hid hv
   have R2 := hid (RG1.out.kept (row := none) ⟨hb.os, hb.tape, hb.output, hb.size, fun k hk _ => hb.block k hk⟩ (by simp) (by simp))
   have B2 := hid (HB1.out.trans (hb.mono HB1.out.size))
   have hsz2 : W.heap.size + 1 ≤ w2.heap.size := by have := hb.size; omega
   have hl2 : l.length + (mt n).length ≤ 2000 := by
    have := G1.out.few MN.out HN.out
    rw [List.length_append] at this
    omega
   clear hv hb CC E1 hen htab
   go_wp2_with (at_builtin; refine wpList_ents rfl _ _ rfl E2.out V2.out hl2 hsz2 rfl rfl ?_; intro v4 w4 H4 S4)
   go_roundg cnt1
   case measure => exact hlt
   case rel =>
    refine ⟨_, l ++ mt n, R2.out.kept S4.out (fun e => ?_) (fun e => ?_), H4.out, G1.out, ?_, ?_⟩
    ·have := hne c.tm e.symm; omega
    ·have := hne W.heap.size e.symm; omega
    ·exact B2.out.trans ((St.of_grown (S := fun k => u5.ownBlock = some k) S4.out fun k e => e).below (B := W.heap.size) (fun k hk => by have := hne k hk; omega) (by omega))
    ·have := S4.out.size; omega
end Go.Proofs.YtnlcbheidiigaaaGreatDoor.So
