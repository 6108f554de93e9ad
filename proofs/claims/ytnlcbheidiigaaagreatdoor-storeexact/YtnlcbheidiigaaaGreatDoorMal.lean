/- A part of StoreExact. -/
import Derived.Test.YtnlcbheidiigaaaGreatDoorMak
namespace Go.Proofs.YtnlcbheidiigaaaGreatDoor
namespace So
open Go.RowKit Go.Shelf Go.Maps
open At (an mtB within_nat bits_and32 cast_beq0)
theorem enters_match1 : ∀ args w, (callFunc 86 args).run Tryz.prog w = .ok (.enter 86 args) w := enters_of Tryz.func86 (by kernel_rfl) rfl
set_option maxHeartbeats 1600000 in
set_option maxRecDepth 100000 in
theorem match1_any {W : World} {tb m : Nat} {ov : Value} (c0 : W.cell? ⟨tb, 0, none⟩ = some (.int .u32 (m : Int))) (c1 : W.cell? ⟨tb, 1, none⟩ = some ov) (hov : ∃ a l c, ov = .slice a l c) (a b : Nat) (hm : m < 4294967296) (ha : a < 4294967296) (hb : b < 4294967296) (xa xb : Nat) (y0 : W.cell? ⟨xa, 0, none⟩ = some (.int .u32 (a : Int))) (y1 : W.cell? ⟨xb, 0, none⟩ = some (.int .u32 (b : Int))) :
  Calls Tryz.prog 86 #[.pointer (some ⟨tb, 0, none⟩), .pointer (some ⟨xa, 0, none⟩), .pointer (some ⟨xb, 0, none⟩)] W fun e W' => e = .returned (if mtB a b m = true then ov else .slice none 0 0) ∧ Below W.heap.size W W' := by
 obtain ⟨oa, ol, oc, rfl⟩ := hov
 have WN := hid (fun w => within_nat a m ha hm w)
 have ba := hid (bits_and32 m b hm hb)
 have KK : Hid (∀ W', Below W.heap.size W W' → W'.cell? ⟨tb, 0, none⟩ = some (.int .u32 (m : Int)) ∧ W'.cell? ⟨tb, 1, none⟩ = some (.slice oa ol oc) ∧ W'.cell? ⟨xa, 0, none⟩ = some (.int .u32 (a : Int)) ∧ W'.cell? ⟨xb, 0, none⟩ = some (.int .u32 (b : Int))) := fun W' hb => ⟨At.seen hb (Nat.le_refl _) c0, At.seen hb (Nat.le_refl _) c1, At.seen hb (Nat.le_refl _) y0, At.seen hb (Nat.le_refl _) y1⟩
 obtain ⟨v, hv⟩ : ∃ v : Value, v = if mtB a b m = true then .slice oa ol oc else .slice none 0 0 := ⟨_, rfl⟩
 rw [← hv]
 unfold mtB at hv
 generalize decide (an a m = 0) = t1 at *
 have c2 : W.drew.cell? ⟨tb, 1, none⟩ = some (.slice oa ol oc) := c1
 clear hm ha hb
 cases t1 with
 | false =>
  rw [Bool.false_and, if_neg (by decide)] at hv
  subst hv
  clear ba
  go_enter Tryz.func86, Tryz.ntmps86
  go_wp2_with fail
  go_quiet ((go_at_call 87; exact Calls.quiet_of_same (WN.out _)))
  all_goals
   go_wp2_with fail
   go_ret
   exact ⟨rfl, At.drewN_below _ _⟩
 | true =>
  rw [Bool.true_and] at hv
  by_cases hz : m &&& b = 0
  ·have q : (bits .and .u32 (m : Int) (b : Int) == 0) = true := by rw [ba.out, hz]; rfl
   rw [decide_eq_true hz, if_pos rfl] at hv
   subst hv
   clear hz ba
   go_enter Tryz.func86, Tryz.ntmps86
   go_wp2_with fail
   go_region_held3 (fun W' => W'.cell? ⟨tb, 0, none⟩ = some (.int .u32 (m : Int)) ∧ W'.cell? ⟨tb, 1, none⟩ = some (.slice oa ol oc) ∧ W'.cell? ⟨xa, 0, none⟩ = some (.int .u32 (a : Int)) ∧ W'.cell? ⟨xb, 0, none⟩ = some (.int .u32 (b : Int))) (first | exact KK.out _ (Below.refl _ _).drew | exact KK.out _ (Below.refl _ _))
    ((go_at_call 87; refine (WN.out _).mono ?_; rintro e w1 ⟨rfl, hq⟩; obtain rfl := hq.symm))
   all_goals
    go_wp2_with fail
    go_ret
    exact ⟨rfl, (Below.refl _ _).drew⟩
  ·have q : (bits .and .u32 (m : Int) (b : Int) == 0) = false := by rw [ba.out, cast_beq0]; exact decide_eq_false hz
   rw [decide_eq_false hz, if_neg (by decide)] at hv
   subst hv
   clear hz ba
   go_enter Tryz.func86, Tryz.ntmps86
   go_wp2_with fail
   go_region_held3 (fun W' => W'.cell? ⟨tb, 0, none⟩ = some (.int .u32 (m : Int)) ∧ W'.cell? ⟨tb, 1, none⟩ = some (.slice oa ol oc) ∧ W'.cell? ⟨xa, 0, none⟩ = some (.int .u32 (a : Int)) ∧ W'.cell? ⟨xb, 0, none⟩ = some (.int .u32 (b : Int))) (first | exact KK.out _ (Below.refl _ _).drew | exact KK.out _ (Below.refl _ _))
    ((go_at_call 87; refine (WN.out _).mono ?_; rintro e w1 ⟨rfl, hq⟩; obtain rfl := hq.symm))
   all_goals
    go_wp2_with fail
    go_ret
    exact ⟨rfl, (Below.refl _ _).drew⟩
end So
namespace So
open Go.RowKit Go.Shelf Go.Maps
open At (cell_blk blk_seen mtB)
open Ro (RS Ents)
open Rs (SD mskP)
theorem upto_sorted (r : RS) (k : Nat) : (r.upto k).Pairwise (fun x y => x.1 < y.1) := by
 induction k with
 | zero => simp [RS.upto]
 | succ k ih =>
  unfold RS.upto
  split
  ·exact ih
  ·exact List.pairwise_append.2 ⟨ih, by simp, fun x hx y hy => by simp at hy; subst hy; exact (RS.upto_mem hx).1⟩
theorem upto_iff (r : RS) (k : Nat) (p : Nat × Nat) : p ∈ r.upto k ↔ p.1 < k ∧ p.1 ∉ r.free ∧ p.2 = r.gens.getD p.1 0 := by
 refine ⟨RS.upto_mem, ?_⟩
 induction k with
 | zero => rintro ⟨h, -⟩; omega
 | succ k ih =>
  rintro ⟨h1, h2, h3⟩
  unfold RS.upto
  by_cases e : p.1 = k
  ·rw [if_neg (by rw [← e]; exact h2), List.mem_append]
   refine .inr ?_
   obtain ⟨a, b⟩ := p
   change a = k at e
   subst e
   simpa using h3
  ·have q := ih ⟨by omega, h2, h3⟩
   split
   ·exact q
   ·exact List.mem_append.2 (.inl q)
theorem all_iff (s : SD) (p : Nat × Nat) : p ∈ s.r.all ↔ al s p.1 p.2 := by
 unfold RS.all
 rw [upto_iff, al_iff]
 constructor
 ·rintro ⟨h1, h2, h3⟩
  refine ⟨h2, ?_⟩
  rw [List.getElem?_eq_getElem h1, h3, List.getD_eq_getElem?_getD, List.getElem?_eq_getElem h1]
  rfl
 ·rintro ⟨h1, h2⟩
  obtain ⟨h3, h4⟩ := List.getElem?_eq_some_iff.1 h2
  exact ⟨h3, h1, by rw [List.getD_eq_getElem?_getD, h2]; rfl⟩
def matched (s : SD) (a b : Nat) : List (Nat × Nat) := s.r.all.filter fun x => mtB a b (mskP (s.at x.1))
def mtM (tab : Nat → Option (List (Nat × Nat))) (sets : List Nat) (a b n : Nat) : List (Nat × Nat) := if mtB a b (sets.getD n 0) = true then (tab n).getD [] else []
theorem sets_at {l : List Nat} {n m : Nat} (h : l[n]? = some m) : l.getD n 0 = m := by rw [List.getD_eq_getElem?_getD, h]; rfl
theorem gathered {ex : Option Nat} {B : Nat} {W : World} {sb : Nat} {c : CV} {s : SD} (h : Sto ex B W sb c s) (he : ex = none) {l : List (Nat × Nat)} {mt : Nat → List (Nat × Nat)} {f : Nat × Nat → Bool} (hs : l.Pairwise (fun x y => x.1 < y.1)) (hm : ∀ x, x ∈ l ↔ ∃ n own, c.tab n = some own ∧ x ∈ mt n)
  (hf : ∀ n own x, c.tab n = some own → (x ∈ mt n ↔ x ∈ own ∧ f x = true)) : l = s.r.all.filter f := by
 subst he
 refine ext_key (fun x => x.1) hs ((upto_sorted _ _).filter _) fun x => ?_
 rw [hm x, List.mem_filter, all_iff]
 constructor
 ·rintro ⟨n, own, e1, e2⟩
  obtain ⟨q1, q2⟩ := (hf n own x e1).1 e2
  obtain ⟨j, hj⟩ := List.getElem?_of_mem q1
  exact ⟨((h.lk.back n own e1).2 j x.1 x.2 hj).1, q2⟩
 ·rintro ⟨e1, e2⟩
  obtain ⟨n, j, own, -, q2, q3, -⟩ := h.lk.here x.1 x.2 e1 (by simp)
  exact ⟨n, own, q2, (hf n own x q2).2 ⟨List.mem_of_getElem? q3, e2⟩⟩
set_option maxHeartbeats 1600000 in
set_option maxRecDepth 100000 in
theorem smatch_any {B : Nat} {W : World} {sb : Nat} {c : CV} {s : SD} (h : Sto none B W sb c s) (a b : Nat) (ha : a < 4294967296) (hb : b < 4294967296) :
  Calls Tryz.prog 30 #[.pointer (some ⟨sb, 0, none⟩), .int .u32 (a : Int), .int .u32 (b : Int)] W fun e W' => ∃ v, e = .returned v ∧ Ents W.heap.size W' v (matched s a b) ∧ Below W.heap.size W W' := by
 obtain ⟨w1, hw1⟩ : ∃ w1, w1 = (W.alloc (.cells #[.int .u32 (a : Int)] 49)).alloc (.cells #[.int .u32 (b : Int)] 49) := ⟨_, rfl⟩
 obtain ⟨b1, r1, p1⟩ := Rs.two_blk W #[.int .u32 (a : Int)] #[.int .u32 (b : Int)] 49 49
 rw [← hw1] at b1 r1 p1
 have h1 := h.later b1
 have GA := hid (gather_any 86 #[.pointer (some ⟨W.heap.size, 0, none⟩), .pointer (some ⟨W.heap.size + 1, 0, none⟩)] enters_match1 h1 (mtM c.tab s.sets a b) (fun n own hn => by
   unfold mtM
   rw [hn]
   split
   ·exact List.Sublist.refl _
   ·exact List.nil_sublist _) (fun n own hn W' hb' => by
   obtain ⟨m, e1, tb⟩ := (h1.later hb').tabs n own hn
   have hm16 := (h1.later hb').atl.ok.u16 (List.mem_of_getElem? e1)
   obtain ⟨oa, oc, ho⟩ := tb.own.slice
   refine (match1_any tb.c0 tb.c1 ⟨_, _, _, ho⟩ a b (by have : m < 65536 := hm16; omega) ha hb W.heap.size (W.heap.size + 1) (cell_blk (blk_seen hb' (Nat.le_refl _) r1) rfl) (cell_blk (blk_seen hb' (Nat.le_refl _) p1) rfl)).mono ?_
   rintro e W2 ⟨rfl, hb2⟩
   refine ⟨_, rfl, ?_, hb2⟩
   unfold mtM
   rw [sets_at e1, hn]
   split
   ·exact World.ownsRow.mono (Ents.later tb.own hb2) (Nat.zero_le _)
   ·exact World.ownsRow_nil _ _ _ _))
 have FI : Hid (∀ l : List (Nat × Nat), l.Pairwise (fun x y => x.1 < y.1) → (∀ x, x ∈ l ↔ ∃ n own, c.tab n = some own ∧ x ∈ mtM c.tab s.sets a b n) → l = matched s a b) := fun l hs hm => gathered h rfl hs hm fun n own x hn => by
  unfold mtM
  constructor
  ·intro hx
   split at hx
   ·rename_i hq
    rw [hn] at hx
    obtain ⟨j, hj⟩ := List.getElem?_of_mem hx
    have := ((h.lk.back n own hn).2 j x.1 x.2 hj).2.2.2
    rw [sets_at this] at hq
    exact ⟨hx, hq⟩
   ·simp at hx
  ·rintro ⟨hx, hq⟩
   obtain ⟨j, hj⟩ := List.getElem?_of_mem hx
   have := ((h.lk.back n own hn).2 j x.1 x.2 hj).2.2.2
   rw [sets_at this, if_pos hq, hn]
   exact hx
 have HW1 := hid hw1
 have B1 := hid b1
 clear hw1 b1 r1 p1 h h1 ha hb
 go_enter Tryz.func30, Tryz.ntmps30
 go_upto_region 1 with fail
 rw [← HW1.out]
 go_wp2_with fail
 refine GA.out.mono ?_
 rintro e w2 ⟨v, l, rfl, e1, e2, e3, e4⟩
 have R := FI.out l e2 e3
 have E := hid (World.ownsRow.mono (base' := W.heap.size) e1 B1.out.size)
 have B2 := hid (B1.out.trans (e4.mono B1.out.size))
 subst R
 clear e1 e2 e3 e4 GA
 go_wp2_with fail
 go_ret
 exact ⟨_, rfl, E.out, B2.out⟩
end So
namespace So
open Go.RowKit Go.Shelf Go.Maps
open At (Ints)
open Ro (Ents wpList_ent)
theorem enters_changed1 : ∀ args w, (callFunc 88 args).run Tryz.prog w = .ok (.enter 88 args) w := enters_of Tryz.func88 (by kernel_rfl) rfl
def owners (own : List (Nat × Nat)) (l : List Nat) : List (Nat × Nat) := l.map fun j => own.getD j (0, 0)
theorem ints_ent {B B' : Nat} {W : World} {v u : Value} {l : List Nat} {q : List (Nat × Nat)} (h : Ints B W v l) (h' : Ents B' W u q) {k : Nat} (hv : v.ownBlock = some k) : u.ownBlock ≠ some k := fun hu => by
 obtain ⟨c, e⟩ := own_blk h hv
 obtain ⟨c', e'⟩ := own_blk h' hu
 rw [e] at e'
 simp at e'
set_option maxHeartbeats 3200000 in
set_option maxRecDepth 100000 in
theorem changed1_any {W : World} {tb cm : Nat} {own : List (Nat × Nat)} {B : Nat} {ov pv : Value} {comp fr : Int} {L : List Nat} {xa xb : Nat} (c1 : W.cell? ⟨tb, 1, none⟩ = some ov) (ho : Ents B W ov own)
  (hread : ∀ W', Below W.heap.size W W' → W'.cell? ⟨tb, 2, none⟩ = some (.map (some cm)) ∧ W'.cell? ⟨xa, 0, none⟩ = some (.int .i64 comp) ∧ W'.cell? ⟨xb, 0, none⟩ = some (.int .i64 fr) ∧ (Instr.lookup 150 (.map (some cm)) (.int .i64 comp) false).run Tryz.prog W' = .ok pv W')
  (SN : ∀ W', Below W.heap.size W W' → Calls Tryz.prog 89 #[pv, .int .i64 fr] W' fun e W2 => ∃ v, e = .returned v ∧ Ints W.heap.size W2 v L ∧ Below W.heap.size W W2)
  (hL : L.length ≤ 64) (hLj : ∀ j ∈ L, j < own.length) :
  Calls Tryz.prog 88 #[.pointer (some ⟨tb, 0, none⟩), .pointer (some ⟨xa, 0, none⟩), .pointer (some ⟨xb, 0, none⟩)] W fun e W' => ∃ v, e = .returned v ∧ Ents W.heap.size W' v (owners own L) ∧ Below W.heap.size W W' := by
 have C1 := hid c1
 have HO := hid ho
 have KK := hid hread
 have SS := hid SN
 have HJ := hid hLj
 have hLi : (L.length : Int) ≤ 64 := by omega
 clear c1 ho hread SN hLj
 go_enter Tryz.func88, Tryz.ntmps88
 go_wp2_with fail
 go_region_held3 (fun W' => W'.cell? ⟨tb, 2, none⟩ = some (.map (some cm)) ∧ W'.cell? ⟨xa, 0, none⟩ = some (.int .i64 comp) ∧ W'.cell? ⟨xb, 0, none⟩ = some (.int .i64 fr) ∧ (Instr.lookup 150 (.map (some cm)) (.int .i64 comp) false).run Tryz.prog W' = .ok pv W') (first | exact KK.out _ (Below.refl _ _).drew | exact KK.out _ (Below.refl _ _) | exact KK.out _ B2.out)
  ((go_at_call 89; refine (SS.out _ (by first | exact (Below.refl _ _).drew | exact Below.refl _ _)).mono ?_; rintro e w2 ⟨v, rfl, hv, hb⟩; obtain ⟨la, lc, rfl⟩ := hv.slice; have V2 := hid hv; have B2 := hid hb; clear hv hb))
 go_wp2_with fail
 go_loopg [5, 7, 17] L.length (fun gh lv _ i wr => ∃ k : Nat, k ≤ L.length ∧ gh = L.length - k ∧ i = .int .i64 (k : Int) ∧ Hid (Ents W.heap.size wr lv (owners own (L.take k))) ∧ Hid (Ints W.heap.size wr (.slice la L.length lc) L) ∧ Hid (Below W.heap.size W wr))
 case atStart => exact ⟨0, Nat.zero_le _, rfl, rfl, World.ownsRow_nil _ _ _ _, V2.out, B2.out⟩
 case round =>
  obtain ⟨k, hk, rfl, rfl, HE, HV, HB⟩ := hrel
  by_cases hlt : k < L.length
  ·have hki : (k : Int) < (L.length : Int) := by omega
   obtain ⟨j, hj⟩ := at_lt L k hlt
   obtain ⟨g, rfl, -, -⟩ := HV.out.some (by omega)
   have x1 := HV.out.cell hj
   have hjo := HJ.out j (List.mem_of_getElem? hj)
   have hjI : (j : Int) < (own.length : Int) := by omega
   have HO2 := Ents.later HO.out HB.out
   obtain ⟨oa, oc, hov⟩ := HO2.slice
   obtain ⟨og, hog⟩ : ∃ og, oa = some ⟨og, 0, none⟩ := by
    rcases HO2.2 with ⟨q1, q2⟩ | ⟨g', cap, cur, q1, -⟩
    ·omega
    ·rw [hov] at q1; exact ⟨g', by simpa using (Value.slice.inj q1).1⟩
   subst hog
   rw [hov] at HO2
   obtain ⟨p, hp⟩ := at_lt own j hjo
   obtain ⟨e0, e1⟩ := ent_at hp
   have y0 : wr.cell? ⟨og, j * 2, none⟩ = some (.int .i64 (p.1 : Int)) := (World.ownsRow.cellAt HO2 (j * 2) (by omega)).trans e0
   have y1 : wr.cell? ⟨og, j * 2 + 1, none⟩ = some (.int .i64 (p.2 : Int)) := (World.ownsRow.cellAt HO2 (j * 2 + 1) (by omega)).trans e1
   have y2 := At.seen HB.out (Nat.le_refl _) C1.out
   rw [hov] at y2
   have HT : Hid (owners own (L.take (k + 1)) = owners own (L.take k) ++ [(p.1, p.2)]) := by
    show _ = _
    unfold owners
    rw [List.take_add_one, hj, List.map_append]
    congr 1
    simp only [Option.toList, List.map_cons, List.map_nil]
    rw [List.getD_eq_getElem?_getD, hp]
    rfl
   obtain ⟨q, hq⟩ : ∃ q, q = owners own (L.take k) := ⟨_, rfl⟩
   have hql : q.length ≤ 1000 := by rw [hq]; unfold owners; simp; omega
   have HEq : Hid (Ents W.heap.size wr u5 q) := by show Ents _ _ _ _; rw [hq]; exact HE.out
   have HQ := hid hq
   have hwr : W.heap.size ≤ wr.heap.size := HB.out.size
   clear hj hp e0 e1 HO2 hov hjo hq HE
   go_wp2_with (at_builtin; refine wpList_ent (k := p.1) (g := p.2) rfl _ _ rfl HEq.out hql hwr rfl rfl ?_; intro v4 w4 H4 S4 O4)
   go_roundg (L.length - (k + 1))
   case measure => omega
   case rel =>
    have s4 := ro_st' S4.out
    refine ⟨k + 1, by omega, rfl, by go_num, ?_, ?_, ?_⟩
    ·show Ents _ _ _ _
     rw [HT.out, ← HQ.out]
     exact H4.out
    ·exact own_kept HV.out s4 fun y hy e => ints_ent HV.out HEq.out hy e
    ·exact HB.out.trans (s4.below (B := W.heap.size) (fun y hy => (World.ownsRow.lt HEq.out y hy).1) hwr)
  ·have hki : ¬ ((k : Int) < (L.length : Int)) := by omega
   obtain rfl : k = L.length := by omega
   have E := HE.out
   rw [List.take_length] at E
   have HE2 := hid E
   clear E HE
   go_wp2_with fail
   go_ret
   exact ⟨_, rfl, HE2.out, HB.out⟩
end So
namespace So
open Go.RowKit Go.Shelf Go.Maps
open Co (I64 Pt since since_len tickAt)
open At (cell_blk blk_seen Ints)
open Ro (Ents)
open Rs (SD mskP)
theorem since_mem (l : List Pt) (f : Int) (k j : Nat) : j ∈ since l f k ↔ j < k ∧ f ≤ tickAt l (j : Int) := by
 induction k with
 | zero => simp [since]
 | succ k ih =>
  unfold since
  split
  ·rename_i h
   rw [List.mem_append, ih]
   simp only [List.mem_singleton]
   constructor
   ·rintro (⟨h1, h2⟩ | rfl)
    ·exact ⟨by omega, h2⟩
    ·exact ⟨by omega, h⟩
   ·rintro ⟨h1, h2⟩
    by_cases e : j = k
    ·exact .inr e
    ·exact .inl ⟨by omega, h2⟩
  ·rename_i h
   rw [ih]
   constructor
   ·rintro ⟨h1, h2⟩; exact ⟨by omega, h2⟩
   ·rintro ⟨h1, h2⟩
    refine ⟨Nat.lt_of_le_of_ne (by omega) fun e => h (by rw [← e]; exact h2), h2⟩
theorem owners_sub (own : List (Nat × Nat)) (l : List Pt) (f : Int) (k : Nat) (hk : k ≤ own.length) : (owners own (since l f k)).Sublist (own.take k) := by
 induction k with
 | zero => simp [since, owners]
 | succ k ih =>
  obtain ⟨p, hp⟩ := at_lt own k (by omega)
  have e : own.take (k + 1) = own.take k ++ [p] := by rw [List.take_add_one, hp]; rfl
  rw [e]
  unfold since
  split
  ·unfold owners at ih ⊢
   rw [List.map_append]
   refine (ih (by omega)).append ?_
   simp [hp]
  ·exact (ih (by omega)).trans (List.sublist_append_left _ _)
def chF (s : SD) (comp fr : Int) (x : Nat × Nat) : Bool := match (s.at x.1).find? (fun p => p.c == comp) with
 | some p => decide (fr ≤ p.t)
 | none => false
def changedL (s : SD) (comp fr : Int) : List (Nat × Nat) := s.r.all.filter (chF s comp fr)
def chL (s : SD) (m : Nat) (own : List (Nat × Nat)) (comp fr : Int) : List Nat := if 0 ≤ comp ∧ m.testBit comp.toNat = true then since (rowsOf s own comp.toNat) fr own.length else []
def chM (tab : Nat → Option (List (Nat × Nat))) (s : SD) (comp fr : Int) (n : Nat) : List (Nat × Nat) := owners ((tab n).getD []) (chL s (s.sets.getD n 0) ((tab n).getD []) comp fr)
theorem tick_row (s : SD) {own : List (Nat × Nat)} {j : Nat} {x : Nat × Nat} (hj : own[j]? = some x) (q : Nat) : tickAt (rowsOf s own q) (j : Int) = (ptAt (s.at x.1) q).t := by
 have e : Co.rowAt (rowsOf s own q) (j : Int) = some (ptAt (s.at x.1) q) := by
  unfold Co.rowAt rowsOf
  simp [hj]
 unfold tickAt
 rw [e]
set_option maxHeartbeats 1600000 in
set_option maxRecDepth 100000 in
theorem changed_any {B : Nat} {W : World} {sb : Nat} {c : CV} {s : SD} (h : Sto none B W sb c s) (comp fr : Int) (hc : I64 comp) :
  Calls Tryz.prog 32 #[.pointer (some ⟨sb, 0, none⟩), .int .i64 comp, .int .i64 fr] W fun e W' => ∃ v, e = .returned v ∧ Ents W.heap.size W' v (changedL s comp fr) ∧ Below W.heap.size W W' := by
 obtain ⟨w1, hw1⟩ : ∃ w1, w1 = (W.alloc (.cells #[.int .i64 comp] 3)).alloc (.cells #[.int .i64 fr] 3) := ⟨_, rfl⟩
 obtain ⟨b1, r1, p1⟩ := Rs.two_blk W #[.int .i64 comp] #[.int .i64 fr] 3 3
 rw [← hw1] at b1 r1 p1
 have h1 := h.later b1
 have hfew : ∀ n own, c.tab n = some own → own.length ≤ 64 := fun n own hn => Nat.le_trans (h.lk.few hn) h.rol.small
 have GA := hid (gather_any 88 #[.pointer (some ⟨W.heap.size, 0, none⟩), .pointer (some ⟨W.heap.size + 1, 0, none⟩)] enters_changed1 h1 (chM c.tab s comp fr) (fun n own hn => by
   unfold chM chL
   rw [hn]
   show (owners own _).Sublist own
   split
   ·exact (owners_sub own _ fr own.length (Nat.le_refl _)).trans (List.take_sublist _ _)
   ·exact List.nil_sublist _) (fun n own hn W' hb' => by
   obtain ⟨m, e1, tb⟩ := (h1.later hb').tabs n own hn
   have em : s.sets.getD n 0 = m := sets_at e1
   have hfew' := hfew n own hn
   refine (changed1_any (cm := (c.tv n).cm) (pv := ptrV (lk (colMap m (c.tv n).cb) comp)) (comp := comp) (fr := fr) (L := chL s m own comp fr) (xa := W.heap.size) (xb := W.heap.size + 1) tb.c1 tb.own (fun W2 hb2 => ?_) (fun W2 hb2 => ?_) ?_ ?_).mono ?_
   ·obtain ⟨m', e1', tb'⟩ := ((h1.later hb').later hb2).tabs n own hn
    obtain rfl : m = m' := by rw [e1] at e1'; simpa using e1'
    exact ⟨tb'.c2, cell_blk (blk_seen hb2 (Nat.le_refl _) (blk_seen hb' (Nat.le_refl _) r1)) rfl, cell_blk (blk_seen hb2 (Nat.le_refl _) (blk_seen hb' (Nat.le_refl _) p1)) rfl, tb'.look comp hc⟩
   ·obtain ⟨m', e1', tb'⟩ := ((h1.later hb').later hb2).tabs n own hn
    obtain rfl : m = m' := by rw [e1] at e1'; simpa using e1'
    unfold chL lk colMap
    by_cases hq : 0 ≤ comp ∧ m.testBit comp.toNat = true
    ·rw [if_pos hq, if_pos hq.1]
     simp only [hq.2, if_true]
     obtain ⟨w, -, col⟩ := tb'.col comp.toNat hq.2
     refine (Co.col_since col fr).mono ?_
     rintro e W3 ⟨v, rfl, q1, q2⟩
     have el : (rowsOf s own comp.toNat).length = own.length := by simp [rowsOf]
     change Ints _ _ _ (since (rowsOf s own comp.toNat) fr (rowsOf s own comp.toNat).length) at q1
     rw [el] at q1
     exact ⟨v, rfl, World.ownsRow.mono (base' := W'.heap.size) q1 hb2.size, hb2.trans (q2.mono hb2.size)⟩
    ·rw [if_neg hq]
     have e0 : ptrV (if 0 ≤ comp then if m.testBit comp.toNat = true then some ((c.tv n).cb comp.toNat) else none else none) = .pointer none := by
      split
      ·split
       ·exact absurd ⟨by assumption, by assumption⟩ hq
       ·rfl
      ·rfl
     rw [e0]
     refine (Co.since_nil fr W2).mono ?_
     rintro e W3 ⟨rfl, rfl⟩
     exact ⟨_, rfl, World.ownsRow_nil _ _ _ _, hb2⟩
   ·unfold chL
    split
    ·have := since_len (rowsOf s own comp.toNat) fr own.length; omega
    ·simp
   ·intro j hj
    unfold chL at hj
    split at hj
    ·exact ((since_mem _ _ _ _).1 hj).1
    ·simp at hj
   ·rintro e W3 ⟨v, rfl, q1, q2⟩
    refine ⟨v, rfl, ?_, q2⟩
    unfold chM
    rw [hn, em]
    exact World.ownsRow.mono q1 (Nat.zero_le _)))
 have FI : Hid (∀ l : List (Nat × Nat), l.Pairwise (fun x y => x.1 < y.1) → (∀ x, x ∈ l ↔ ∃ n own, c.tab n = some own ∧ x ∈ chM c.tab s comp fr n) → l = changedL s comp fr) := fun l hs hm => gathered h rfl hs hm fun n own x hn => by
  obtain ⟨m, e1, tb⟩ := h.tabs n own hn
  unfold chM
  rw [hn, sets_at e1]
  show x ∈ owners own (chL s m own comp fr) ↔ _
  have hat : ∀ j : Nat, own[j]? = some x → (j ∈ chL s m own comp fr ↔ chF s comp fr x = true) := fun j hj => by
   obtain ⟨ha, -, -, hms⟩ := (h.lk.back n own hn).2 j x.1 x.2 hj
   have hok := h.lk.ok x.1 x.2 ha (by simp)
   obtain rfl : m = mskP (s.at x.1) := by rw [e1] at hms; simpa using hms
   have hj' := (List.getElem?_eq_some_iff.1 hj).1
   unfold chL chF
   by_cases hq : 0 ≤ comp ∧ (mskP (s.at x.1)).testBit comp.toNat = true
   ·rw [if_pos hq, since_mem, tick_row s hj]
    obtain ⟨p, hp, hpc⟩ := (msk_mem (okL_pos hok.1) comp.toNat).1 hq.2
    have hpc' : p.c = comp := by omega
    have ef := find_apart (okL_apart hok.1) hp
    rw [hpc'] at ef
    rw [ef, ptAt_mem (okL_apart hok.1) hp hpc]
    simp [hj', pt]
   ·rw [if_neg hq]
    rw [find_none fun p hp e => hq ?_]
    ·simp
    ·have h0 := okL_pos hok.1 p hp
     exact ⟨by omega, (msk_mem (okL_pos hok.1) comp.toNat).2 ⟨p, hp, by omega⟩⟩
  constructor
  ·intro hx
   obtain ⟨j, hj, rfl⟩ := List.mem_map.1 hx
   have hj' : j < own.length := by
    unfold chL at hj
    split at hj
    ·exact ((since_mem _ _ _ _).1 hj).1
    ·simp at hj
   have e : own[j]? = some (own.getD j (0, 0)) := by rw [List.getD_eq_getElem?_getD, List.getElem?_eq_getElem hj']; rfl
   exact ⟨List.mem_of_getElem? e, (hat j e).1 hj⟩
  ·rintro ⟨hx, hq⟩
   obtain ⟨j, hj⟩ := List.getElem?_of_mem hx
   refine List.mem_map.2 ⟨j, (hat j hj).2 hq, ?_⟩
   show own.getD j (0, 0) = x
   rw [List.getD_eq_getElem?_getD, hj]
   rfl
 have HW1 := hid hw1
 have B1 := hid b1
 clear hw1 b1 r1 p1 h h1 hc hfew
 go_enter Tryz.func32, Tryz.ntmps32
 go_upto_region 1 with fail
 rw [← HW1.out]
 go_wp2_with fail
 refine GA.out.mono ?_
 rintro e w2 ⟨v, l, rfl, e1, e2, e3, e4⟩
 have R := FI.out l e2 e3
 have E := hid (World.ownsRow.mono (base' := W.heap.size) e1 B1.out.size)
 have B2 := hid (B1.out.trans (e4.mono B1.out.size))
 subst R
 clear e1 e2 e3 e4 GA
 go_wp2_with fail
 go_ret
 exact ⟨_, rfl, E.out, B2.out⟩
end So
namespace So
open Go.RowKit Go.Shelf Go.Maps
open At (Ints Atl)
open Ro (RS Rol entCells)
open Rs (SD okW)
theorem rol_lower {B B' : Nat} {W : World} {rb t : Nat} {r : RS} {S : Nat → Prop} (h : Rol B W rb t r S) (hB : B' ≤ B) : Rol B' W rb t r S := by
 obtain ⟨gb, mb, fv, h1, h2⟩ := h
 exact ⟨gb, mb, fv, ⟨h1.box, h1.gens, World.ownsRow.mono h1.free hB, h1.map, h1.ok, h1.small, h1.old, ⟨Nat.le_trans hB h1.low.1, Nat.le_trans hB h1.low.2.1, Nat.le_trans hB h1.low.2.2⟩, h1.apart⟩, h2⟩
def madeS (ws : List Nat) (n : Nat) : SD := { ws := ws, sets := [0], r := RS.fresh n, p := List.replicate 64 [] }
theorem al_made {ws : List Nat} {n i g : Nat} : ¬ al (madeS ws n) i g := by
 rw [al_iff]
 rintro ⟨h1, h2⟩
 obtain ⟨h3, -⟩ := List.getElem?_eq_some_iff.1 h2
 apply h1
 simp [madeS, RS.fresh] at h3 ⊢
 omega
theorem lk_made (ws : List Nat) (n : Nat) : Lk none (fun _ => none) (List.replicate n (0, 0)) (madeS ws n) :=
 ⟨by simp [madeS, RS.fresh], fun _ _ h => absurd h al_made, fun _ _ h => (by cases h), fun _ _ h => absurd h al_made⟩
theorem Sto.made {B : Nat} {w2 w3 w4 W' : World} {rb ab sb tm sv n : Nat} {S2 S3 : Nat → Prop} {ws : List Nat} {lv : Value} (hB : B ≤ w2.heap.size) (hR : Rol w2.heap.size w3 rb 0 (RS.fresh n) S2) (hA : Atl w3.heap.size w4 ab ⟨ws.length, [0]⟩ S3) (b34 : Below w3.heap.size w3 w4) (b23 : w2.heap.size ≤ w3.heap.size) (b4 : Below w4.heap.size w4 W')
  (hbox : W'.heap[sb]? = some (.cells #[lv, .pointer (some ⟨ab, 0, none⟩), .map (some tm), .pointer (some ⟨rb, 0, none⟩), .slice (some ⟨sv, 0, none⟩) n n] 115 (0, 0))) (hmap : PMap W' tm (fun _ => none)) (hseat : W'.heap[sv]? = some (.cells (entCells (List.replicate n (0, 0))).toArray 218 (0, 0)))
  (hw : Ints w4.heap.size W' lv ws) (h1 : w4.heap.size ≤ sb) (h2 : w4.heap.size ≤ tm) (h3 : w4.heap.size ≤ sv) (hok : okW ws) :
  ∃ c : CV, Sto none B W' sb c (madeS ws n) ∧ c.t = 0 ∧ ∀ k, c.f k ≠ (0, 0, 0) → w2.heap.size ≤ k := by
 classical
 obtain ⟨f, hf⟩ : ∃ f : Nat → Nat × Nat × Nat, f = fun k => if k = sb ∨ k = tm ∨ k = sv ∨ lv.ownBlock = some k then (1, 0, 0) else if S2 k then (2, 0, 0) else if S3 k then (3, 0, 0) else (0, 0, 0) := ⟨_, rfl⟩
 have l34 := b34.size
 have l4 := b4.size
 have one : ∀ k, (k = sb ∨ k = tm ∨ k = sv ∨ lv.ownBlock = some k) → w4.heap.size ≤ k := fun k hk => by
  rcases hk with rfl | rfl | rfl | hk
  ·exact h1
  ·exact h2
  ·exact h3
  ·exact (hw.lt k hk).1
 have s2 : ∀ k, S2 k → w2.heap.size ≤ k ∧ k < w3.heap.size := fun k hk => hR.lt k hk
 have s3 : ∀ k, S3 k → w3.heap.size ≤ k ∧ k < w4.heap.size := fun k hk => hA.lt k hk
 have f1 : ∀ k, f k = (1, 0, 0) ↔ k = sb ∨ k = tm ∨ k = sv ∨ lv.ownBlock = some k := fun k => by
  rw [hf]
  show (if _ then _ else _) = _ ↔ _
  split
  ·exact ⟨fun _ => by assumption, fun _ => rfl⟩
  ·rename_i hn
   split
   ·exact ⟨fun e => by simp at e, fun e => absurd e hn⟩
   ·split
    ·exact ⟨fun e => by simp at e, fun e => absurd e hn⟩
    ·exact ⟨fun e => by simp at e, fun e => absurd e hn⟩
 have f2 : ∀ k, f k = (2, 0, 0) ↔ S2 k := fun k => by
  rw [hf]
  show (if _ then _ else _) = _ ↔ _
  split
  ·rename_i hn
   exact ⟨fun e => by simp at e, fun e => by have := one k hn; have := s2 k e; omega⟩
  ·split
   ·exact ⟨fun _ => by assumption, fun _ => rfl⟩
   ·rename_i hn
    split
    ·exact ⟨fun e => by simp at e, fun e => absurd e hn⟩
    ·exact ⟨fun e => by simp at e, fun e => absurd e hn⟩
 have f3 : ∀ k, f k = (3, 0, 0) ↔ S3 k := fun k => by
  rw [hf]
  show (if _ then _ else _) = _ ↔ _
  split
  ·rename_i hn
   exact ⟨fun e => by simp at e, fun e => by have := one k hn; have := s3 k e; omega⟩
  ·split
   ·rename_i hn
    exact ⟨fun e => by simp at e, fun e => by have := s2 k hn; have := s3 k e; omega⟩
   ·split
    ·exact ⟨fun _ => by assumption, fun _ => rfl⟩
    ·rename_i hn
     exact ⟨fun e => by simp at e, fun e => absurd e hn⟩
 have fany : ∀ k, f k ≠ (0, 0, 0) → (k = sb ∨ k = tm ∨ k = sv ∨ lv.ownBlock = some k) ∨ S2 k ∨ S3 k := fun k hk => by
  rw [hf] at hk
  change (if _ then _ else _) ≠ _ at hk
  split at hk
  ·exact .inl (by assumption)
  ·split at hk
   ·exact .inr (.inl (by assumption))
   ·split at hk
    ·exact .inr (.inr (by assumption))
    ·exact absurd rfl hk
 have hlt : ∀ k, f k ≠ (0, 0, 0) → w2.heap.size ≤ k ∧ k < W'.heap.size := fun k hk => by
  have L := fun {k : Nat} {o : Obj} (h : W'.heap[k]? = some o) => (Array.getElem?_eq_some_iff.1 h).1
  rcases fany k hk with q | q | q
  ·have q' := one k q
   refine ⟨by omega, ?_⟩
   rcases q with rfl | rfl | rfl | q
   ·exact L hbox
   ·exact hmap.lt
   ·exact L hseat
   ·exact (hw.lt k q).2
  ·have := s2 k q; exact ⟨this.1, by omega⟩
  ·have := s3 k q; exact ⟨by omega, by omega⟩
 refine ⟨⟨lv, ab, tm, rb, sv, 0, List.replicate n (0, 0), fun _ => none, fun _ => ⟨0, .nilIface, 0, fun _ => 0⟩, f⟩, ⟨?_, ?_, ?_, ?_, hseat, ?_, fun n' own h => (by cases h), f1, fun k hk => ⟨Nat.le_trans hB (hlt k hk).1, (hlt k hk).2⟩, hok, by simp [madeS], lk_made ws n, fun k n' hk => ?_, by simp⟩, rfl, fun k hk => (hlt k hk).1⟩
 ·unfold CV.box
  simpa using hbox
 ·exact hw.lower (by omega)
 ·exact atl_congr ((hA.later b4).lower (by omega)) f3
 ·exact rol_congr (rol_lower ((hR.later b34).later b4) hB) f2
 ·exact hmap
 ·rcases fany k (cls_ne hk).1 with q | q | q
  ·exact absurd ((f1 k).2 q) (cls_ne hk).2.1
  ·exact absurd ((f2 k).2 q) (cls_ne hk).2.2.1
  ·exact absurd ((f3 k).2 q) (cls_ne hk).2.2.2
end So
namespace So
open Go.RowKit Go.Shelf Go.Maps
open Ro (entCells entCells_len)
theorem infoSeat : (Tryz.prog.info? 218).map (fun i => (i.zero, i.size, i.bytes)) = some (some (.agg #[.int .i64 0, .int .i64 0]), 2, 16) := by kernel_rfl
theorem made_seats (n : Nat) : madeCells (Value.cells (.agg #[.int .i64 0, .int .i64 0])) (n * 2) = (entCells (List.replicate n (0, 0))).toArray := by
 have e0 : Value.cells (.agg #[.int .i64 0, .int .i64 0]) = #[.int .i64 0, .int .i64 0] := by simp [Value.cells]
 rw [e0]
 apply Array.toList_inj.1
 refine List.ext_getElem? fun t => ?_
 show _ = (entCells (List.replicate n (0, 0)))[t]?
 by_cases ht : t < n * 2
 ·obtain ⟨p, hp⟩ : ∃ p : Nat × Nat, p = (0, 0) := ⟨_, rfl⟩
  have hr : (List.replicate n (0, 0) : List (Nat × Nat))[t / 2]? = some (0, 0) := by rw [List.getElem?_replicate, if_pos (by omega)]
  obtain ⟨e1, e2⟩ := ent_at hr
  rcases Nat.mod_two_eq_zero_or_one t with h | h
  ·rw [show t / 2 * 2 = t by omega] at e1
   rw [e1]
   simp [madeCells, ht, h]
  ·rw [show t / 2 * 2 + 1 = t by omega] at e2
   rw [e2]
   simp [madeCells, ht, h]
 ·rw [List.getElem?_eq_none (by simp [madeCells]; omega), List.getElem?_eq_none (by rw [entCells_len]; simp; omega)]
theorem run_seats (W : World) (n : Nat) (hn : n ≤ 64) : (Instr.makeSlice 110 (.int .i64 (n : Int)) (.int .i64 (n : Int))).run Tryz.prog W = .ok (.slice (some ⟨W.heap.size, 0, none⟩) n n) (W.alloc (.cells (entCells (List.replicate n (0, 0))).toArray 218)) := by
 obtain ⟨i0, hi, hz0, hz1, hz2⟩ := info_parts infoSeat
 have h := run_makeSlice (P := Tryz.prog) W 110 218 i0 (.agg #[.int .i64 0, .int .i64 0]) Tryz.underlying110 hi hz0 .i64 .i64 (n : Int) (n : Int) (by omega) (by omega) (by rw [hz1]; simp; omega) (by rw [hz2]; omega) (by omega)
 rw [hz1, Int.toNat_natCast, made_seats] at h
 exact h
end So
namespace So
open Go.RowKit Go.Shelf Go.Maps
open At (St cell_blk blk_free Ints)
open Ro (infoInt)
theorem step_wid {ops : Array Oper} {o : Oper} {a : Act} {K : Act → World → Prop} {Q : Exit → Act → World → Prop} {E : Prop} (hgd : o.guard = none) (s x : Operand)
  (ho : o.op = .call { callee := .builtin .append, args := #[s, x], argTypes := #[113, 113] }) {B sb : Nat} {wc : World} {ov : Value} {l : List Nat} {k : Nat} (hown : Ints B wc ov l) (hl : l.length ≤ 1000) (hB : B ≤ wc.heap.size)
  {cs : Array Value} (hbox : wc.heap[sb]? = some (.cells cs 115 (0, 0))) (hcs : cs[0]? = some ov) (hne : ov.ownBlock ≠ some sb)
  (hs : a.eval s = ov) (hx : a.eval x = .slice (some ⟨wc.heap.size, 0, none⟩) 1 1)
  (h : ∀ g' cap w2, Hid (Ints B w2 (.slice (some ⟨g', 0, none⟩) (l.length + 1) cap) (l ++ [k]) ∧ w2.heap[sb]? = some (.cells cs 115 (0, 0)) ∧ St (fun x => ov.ownBlock = some x) wc w2 ∧ (ov.ownBlock = some g' ∨ wc.heap.size ≤ g')) → w2.cell? ⟨sb, 0, none⟩ = some ov → w2.frozen? ⟨sb, 0, none⟩ = false → K (a.put o.dst (.slice (some ⟨g', 0, none⟩) (l.length + 1) cap)) w2) :
  if Region.wanted o (yielded ops a.tmps) = true then Oper.wp Tryz.prog o a (wc.alloc (.cells #[.int .i64 (k : Int)] 3)).drew K Q else E := by
 obtain ⟨i0, hi, hz0, hz1, hz2⟩ := info_parts infoInt
 have hb : Below wc.heap.size wc (wc.alloc (.cells #[.int .i64 (k : Int)] 3)).drew := ((Below.refl _ _).alloc (Nat.le_refl _) _).drew
 have ho2 : (wc.alloc (.cells #[.int .i64 (k : Int)] 3)).drew.ownsRow B 3 1 ov l.length (l.map At.gI) := World.ownsRow.alloc hown _
 have hz : (wc.alloc (.cells #[.int .i64 (k : Int)] 3)).drew.heap.size = wc.heap.size + 1 := by simp
 have hh := heap_alloc_new wc (.cells #[.int .i64 (k : Int)] 3)
 refine step_append_lies _ hgd s x 113 ho B 3 i0 (.int .i64 0) 1 8 Tryz.underlying113 hi hz0 hz1 hz2 rfl (by decide) ov l.length (l.map At.gI) hs ho2 ⟨wc.heap.size, 0, none⟩ 1 1 [At.gI k] hx rfl (fun j u hu => by
  rw [add_at]
  match j, hu with
  | 0, hu =>
   simp at hu
   subst hu
   exact cell_blk (W := wc.alloc _) hh rfl
  | j + 1, hu => simp at hu) (by intro u hu; simp at hu; subst hu; rfl) (by decide) (by unfold maxLen; omega) (by omega) (by omega) (wc.heap.size + 1) hz ?_
 intro g' cap w2 ow hg hat hlt
 have st : St (fun x => ov.ownBlock = some x) wc w2 := (St.of_below hb).trans (St.of_grown (S := fun x => ov.ownBlock = some x) hg fun k e => e) fun _ _ q => q
 have hb2 := st.at hbox hne
 refine h g' cap w2 ⟨?_, hb2, st, ?_⟩ (cell_blk hb2 hcs) (blk_free hb2 0)
 ·show World.ownsRow _ _ _ _ _ _ _
  rw [List.map_append, List.length_append]
  exact ow
 ·rcases hat with h1 | h1
  ·exact .inl h1
  ·exact .inr (by omega)
structure Nw (w4 w5 : World) (ab rb n : Nat) (l : List Nat) (lv : Value) (wr : World) : Prop where
 box : wr.heap[w4.heap.size + 2]? = some (.cells #[lv, .pointer (some ⟨ab, 0, none⟩), .map (some w4.heap.size), .pointer (some ⟨rb, 0, none⟩), .slice (some ⟨w4.heap.size + 1, 0, none⟩) n n] 115 (0, 0))
 row : Ints w5.heap.size wr lv l
 st : St (fun k => k = w4.heap.size + 2) w5 wr
theorem Nw.next {w4 w5 : World} {ab rb n : Nat} {l : List Nat} {lv lv' : Value} {wr wc w2 : World} {k : Nat} (h : Nw w4 w5 ab rb n l lv wr) (hz : w5.heap.size = w4.heap.size + 3) (hb : Below wr.heap.size wr wc) (h1 : Ints w5.heap.size w2 lv' (l ++ [k])) (h2 : w2.heap[w4.heap.size + 2]? = some (.cells #[lv, .pointer (some ⟨ab, 0, none⟩), .map (some w4.heap.size), .pointer (some ⟨rb, 0, none⟩), .slice (some ⟨w4.heap.size + 1, 0, none⟩) n n] 115 (0, 0))) (h3 : St (fun x => lv.ownBlock = some x) wc w2) : Nw w4 w5 ab rb n (l ++ [k]) lv' (w2.setCell ⟨w4.heap.size + 2, 0, none⟩ lv') := by
 have s1 := St.setCell (S := fun k => k = w4.heap.size + 2) (a := w2) (p := ⟨w4.heap.size + 2, 0, none⟩) lv' rfl
 have hlow := fun k hk => (h.row.lt k hk).1
 refine ⟨?_, own_kept h1 s1 fun k hk e => ?_, ?_⟩
 ·have := heap_setCell_same w2 (w4.heap.size + 2) 0 _ _ lv' h2
  simpa using this
 ·have := (h1.lt k hk).1; omega
 ·refine ((h.st.trans (St.of_below (S := fun _ => False) hb) fun _ _ q => q.elim).trans h3 fun k hk e => ?_).trans s1 fun _ _ q => q
  have := hlow k e; omega
end So
namespace So
open Go.RowKit Go.Shelf Go.Maps
open At (St bAl cell_blk blk_seen)
open Ro (entCells)
open Rs (okW)
open Sc (Cmp Rsc CmpRow RscRow SmallC SmallQ checkL)
theorem top_nil {Ad : Nat → Addr} {n d : Nat} {W : World} {v : Value} (h : Top Ad n W d v []) : v = .nilIface := by
 rcases h with ⟨h, -⟩ | ⟨p, h, -⟩ | ⟨b, vs, -, h, hs⟩
 ·exact h
 ·simp at h
 ·have e : vs.length = 0 := by simpa using (congrArg List.length h).symm
  have := hs.two
  omega
set_option maxHeartbeats 3200000 in
set_option maxRecDepth 100000 in
theorem new_ok (Ad : Nat → Addr) (W : World) (va vb : Value) (cs : List Cmp) (rs : List Rsc) (hE : Env8 W Ad) (hC : CmpRow W va cs) (hQ : RscRow W vb rs) (hsC : SmallC cs) (hsQ : SmallQ rs) (hck : checkL cs rs = []) (ws : List Nat) (hws : cs.map (fun c => c.wd) = ws.map fun (w : Nat) => (w : Int)) (hok : okW ws) (n : Nat) (hn : n ≤ 64) :
  Calls Tryz.prog 10 #[.agg #[va, vb], .int .i64 (n : Int)] W fun e W' => ∃ sb, e = .returned (.tuple #[.pointer (some ⟨sb, 0, none⟩), .nilIface]) ∧ ∃ c, Sto none W.heap.size W' sb c (madeS ws n) ∧ c.t = 0 ∧ Below W.heap.size W W' := by
 have hmm := @run_makeMap Tryz.prog
 obtain ⟨w1, hw1⟩ : ∃ w1, w1 = W.alloc (.cells #[va, vb] 25) := ⟨_, rfl⟩
 have b1 : Below W.heap.size W w1 := by rw [hw1]; exact bAl _ _
 have r1 : w1.heap[W.heap.size]? = some (.cells #[va, vb] 25 (0, 0)) := by rw [hw1]; exact heap_alloc_new W _
 have CK := hid (Sc.check_any Ad w1 va vb cs rs (hE.later b1) (hC.later b1) (hQ.later b1) hsC hsQ)
 rw [hck] at CK
 obtain ⟨a, cc, rfl, hcap, hlay⟩ := id hC
 obtain ⟨a', c', rfl, -, -⟩ := id hQ
 have x0 : w1.cell? ⟨W.heap.size, 0, none⟩ = some (.slice a cs.length cc) := cell_blk r1 rfl
 have x1 : w1.cell? ⟨W.heap.size, 1, none⟩ = some (.slice a' rs.length c') := cell_blk r1 rfl
 have hl16 : cs.length ≤ 16 := by have := congrArg List.length hws; simp at this; have := hok.1; omega
 have hlw : cs.length = ws.length := by have := congrArg List.length hws; simpa using this
 have HLW := hid hlw
 have hli : (cs.length : Int) ≤ 16 := by omega
 clear hlw
 have HW1 := hid hw1
 have B1 := hid b1
 have R1 := hid r1
 have HC := hid hC
 have HWS := hid hws
 have HOK := hid hok
 have hni : (n : Int) ≤ 64 := by omega
 have hn0 : (0 : Int) ≤ (n : Int) := by omega
 have hn0' : ¬ ((n : Int) < 0) := by omega
 have hse := fun w => run_seats w n hn
 have RN := hid fun w => Ro.rol_new w n hn
 have AN := hid fun w => At.new_ok w cs.length hl16
 clear hw1 b1 r1 hC hQ hsC hsQ hck hws hok hE hlay
 go_enter Tryz.func10, Tryz.ntmps10
 go_upto_region 1 with fail
 rw [← HW1.out]
 go_wp2_with fail
 refine CK.out.mono ?_
 rintro e w2 ⟨v', rfl, ht, hb2⟩
 obtain rfl := top_nil ht
 have B2 := hid (B1.out.trans (hb2.mono B1.out.size))
 have R2 := hid (blk_seen hb2 (Nat.le_refl _) R1.out)
 clear ht hb2 CK x0 x1
 go_wp2_with fail
 refine (RN.out w2).mono ?_
 rintro e w3 ⟨rb, S2, rfl, hr3, hb3⟩
 have R3 := hid hr3
 have B23 := hid hb3
 have q3 := blk_seen hb3 (Nat.le_refl _) R2.out
 have x0 : w3.cell? ⟨W.heap.size, 0, none⟩ = some (.slice a cs.length cc) := cell_blk q3 rfl
 have Q3 := hid q3
 clear hr3 hb3 RN q3
 go_wp2_with fail
 refine (AN.out w3).mono ?_
 rintro e w4 ⟨ab, S3, rfl, ha4, hb4⟩
 have A4 := hid ha4
 have B34 := hid hb4
 have Q4 := hid (blk_seen hb4 (Nat.le_refl _) Q3.out)
 clear ha4 hb4 AN x0
 obtain ⟨w5, hw5⟩ : ∃ w5, w5 = ((w4.alloc (.map #[] 0)).alloc (.cells (entCells (List.replicate n (0, 0))).toArray 218)).alloc (.cells #[.slice none 0 0, .pointer (some ⟨ab, 0, none⟩), .map (some w4.heap.size), .pointer (some ⟨rb, 0, none⟩), .slice (some ⟨w4.heap.size + 1, 0, none⟩) n n] 115) := ⟨_, rfl⟩
 have ba := bAl w4 (.map #[] 0)
 have bb := bAl (w4.alloc (.map #[] 0)) (.cells (entCells (List.replicate n (0, 0))).toArray 218)
 have bc := bAl ((w4.alloc (.map #[] 0)).alloc (.cells (entCells (List.replicate n (0, 0))).toArray 218)) (.cells #[.slice none 0 0, .pointer (some ⟨ab, 0, none⟩), .map (some w4.heap.size), .pointer (some ⟨rb, 0, none⟩), .slice (some ⟨w4.heap.size + 1, 0, none⟩) n n] 115)
 have na := heap_alloc_new (w4.alloc (.map #[] 0)) (.cells (entCells (List.replicate n (0, 0))).toArray 218)
 have nb := heap_alloc_new ((w4.alloc (.map #[] 0)).alloc (.cells (entCells (List.replicate n (0, 0))).toArray 218)) (.cells #[.slice none 0 0, .pointer (some ⟨ab, 0, none⟩), .map (some w4.heap.size), .pointer (some ⟨rb, 0, none⟩), .slice (some ⟨w4.heap.size + 1, 0, none⟩) n n] 115)
 have z5 : w5.heap.size = w4.heap.size + 3 := by rw [hw5]; simp
 rw [← hw5] at bc nb
 have S5 : Hid (w5.heap[w4.heap.size + 1]? = some (.cells (entCells (List.replicate n (0, 0))).toArray 218 (0, 0))) := by
  have := blk_seen bc (Nat.le_refl _) na
  rw [World.size_alloc] at this
  exact this
 have M5 : Hid (PMap w5 w4.heap.size (fun _ => none)) := ((pmap_made w4).kept (T := fun _ => False) (St.of_below bb) id).kept (T := fun _ => False) (St.of_below bc) id
 have B45 : Hid (Below w4.heap.size w4 w5) := (ba.trans (bb.mono ba.size)).trans (bc.mono (ba.trans (bb.mono ba.size)).size)
 have N5 : Hid (Nw w4 w5 ab rb n [] (.slice none 0 0) w5) := ⟨by rw [World.size_alloc, World.size_alloc] at nb; exact nb, World.ownsRow_nil _ _ _ _, St.of_below (Below.refl _ _)⟩
 have BW5 := hid ((B2.out.trans (B23.out.mono B2.out.size)).trans ((B34.out.trans (B45.out.mono B34.out.size)).mono (B2.out.trans (B23.out.mono B2.out.size)).size))
 have Q5 := hid (blk_seen B45.out (Nat.le_refl _) Q4.out)
 have x5 : w5.cell? ⟨W.heap.size, 0, none⟩ = some (.slice a cs.length cc) := cell_blk Q5.out rfl
 have HW5 := hid hw5
 clear ba bb bc na nb hw5
 go_upto_region 11 with fail
 rw [← HW5.out]
 clear hse hmm
 go_wp2_with fail
 go_loopg [12, 47] cs.length (fun gh _ i wr => ∃ k : Nat, k ≤ cs.length ∧ gh = cs.length - k ∧ i = .int .i64 (k : Int) ∧ ∃ lv, Hid (Nw w4 w5 ab rb n (ws.take k) lv wr))
 case atStart => exact ⟨0, Nat.zero_le _, rfl, rfl, _, N5.out⟩
 case round =>
  obtain ⟨k, hk, rfl, rfl, lv, HN⟩ := hrel
  by_cases hlt : k < cs.length
  ·have hki : (k : Int) < (cs.length : Int) := by omega
   obtain ⟨x, hx⟩ := at_lt cs k hlt
   obtain ⟨wk, hwk⟩ := at_lt ws k (by rw [← HLW.out]; exact hlt)
   have hxw : x.wd = (wk : Int) := by
    have := congrArg (fun l => l[k]?) HWS.out
    simpa [hx, hwk] using this
   obtain ⟨b, o, rfl, hc⟩ : ∃ b o, a = some ⟨b, o, none⟩ ∧ ∀ (j : Nat) (x : Cmp), cs[j]? = some x → W.cell? ⟨b, o + j * 7, none⟩ = some (.string x.s) ∧ W.cell? ⟨b, o + j * 7 + 1, none⟩ = some (.int .i64 x.wd) ∧ W.cell? ⟨b, o + j * 7 + 2, none⟩ = some (.bool x.rb) ∧ W.cell? ⟨b, o + j * 7 + 3, none⟩ = some (.int .i64 x.d0) ∧ W.cell? ⟨b, o + j * 7 + 4, none⟩ = some (.int .i64 x.d1) ∧ W.cell? ⟨b, o + j * 7 + 5, none⟩ = some (.int .i64 x.d2) ∧ W.cell? ⟨b, o + j * 7 + 6, none⟩ = some (.int .i64 x.d3) := by
    obtain ⟨a2, c2, e1, -, e3⟩ := HC.out
    have e2 : a = a2 := by simpa using (Value.slice.inj e1).1
    rcases e3 with h | h
    ·rw [h] at hlt; simp at hlt
    ·rw [e2]; exact h
   obtain ⟨c0, c1, c2, c3, c4, c5, c6⟩ := hc k x hx
   have hWw : W.heap.size ≤ w4.heap.size := Nat.le_trans (Nat.le_trans B2.out.size B23.out.size) B34.out.size
   have S := fun {p : Addr} {u : Value} (h : W.cell? p = some u) => st_cell HN.out.st (At.seen BW5.out (Nat.le_refl _) h) (fun e => by have := World.block_lt_of_cell? W _ h; omega)
   have c0 := S c0
   have c1 := S c1
   have c2 := S c2
   have c3 := S c3
   have c4 := S c4
   have c5 := S c5
   have c6 := S c6
   rw [hxw] at c1
   obtain ⟨w6, hw6⟩ : ∃ w6, w6 = wr.alloc (.cells #[.string x.s, .int .i64 (wk : Int), .bool x.rb, .int .i64 x.d0, .int .i64 x.d1, .int .i64 x.d2, .int .i64 x.d3] 99) := ⟨_, rfl⟩
   have b6 : Below wr.heap.size wr w6 := by rw [hw6]; exact bAl _ _
   have r6 : w6.heap[wr.heap.size]? = some (.cells #[.string x.s, .int .i64 (wk : Int), .bool x.rb, .int .i64 x.d0, .int .i64 x.d1, .int .i64 x.d2, .int .i64 x.d3] 99 (0, 0)) := by rw [hw6]; exact heap_alloc_new wr _
   obtain ⟨l, hl⟩ : ∃ l, l = ws.take k := ⟨_, rfl⟩
   have HT : Hid (ws.take (k + 1) = l ++ [wk]) := by show _ = _; rw [List.take_add_one, hwk, hl]; rfl
   rw [← hl] at HN
   obtain ⟨oa, oc, rfl⟩ := HN.out.row.slice
   have hl9 : l.length ≤ 1000 := by rw [hl]; simp; omega
   have ROW := hid (HN.out.row.later b6)
   have BOX := hid (blk_seen b6 (Nat.le_refl _) HN.out.box)
   have y0 : w6.cell? ⟨w4.heap.size + 2, 0, none⟩ = some (.slice oa l.length oc) := cell_blk BOX.out rfl
   have y1 : w6.cell? ⟨wr.heap.size, 1, none⟩ = some (.int .i64 (wk : Int)) := cell_blk r6 rfl
   have hne : (Value.slice oa l.length oc).ownBlock ≠ some (w4.heap.size + 2) := fun e => by have := (ROW.out.lt _ e).1; omega
   have hB6 : w5.heap.size ≤ w6.heap.size := Nat.le_trans HN.out.st.size b6.size
   have htn : ¬ (w4.heap.size + 2 = w6.heap.size) := by omega
   have htw : w4.heap.size + 2 < w6.heap.size := by omega
   have hwn : ¬ (wr.heap.size = w6.heap.size) := by have := (Array.getElem?_eq_some_iff.1 r6).1; omega
   have hwl : wr.heap.size < w6.heap.size := (Array.getElem?_eq_some_iff.1 r6).1
   have B6 := hid b6
   have HW6 := hid hw6
   clear S hc hx hwk hxw hw6 b6 r6 hl
   go_upto_region 14 with fail
   rw [← HW6.out]
   go_region_law (refine step_wid (k := wk) rfl _ _ rfl ROW.out hl9 hB6 BOX.out rfl hne rfl rfl ?_; intro g' cap w7 hg hx7 hf7)
   all_goals
    have NX := hid (HN.out.next z5 B6.out hg.out.1 hg.out.2.1 hg.out.2.2.1)
    clear hx7 hf7
    go_wp2_with fail
    go_roundg (cs.length - (k + 1))
    case measure => omega
    case rel => exact ⟨k + 1, by omega, rfl, by go_num, _, by rw [HT.out]; exact NX.out⟩
  ·have hki : ¬ ((k : Int) < (cs.length : Int)) := by omega
   have hkl : k = cs.length := by omega
   have hN := HN.out
   have ew : ws.take k = ws := List.take_of_length_le (by rw [hkl, HLW.out]; exact Nat.le_refl _)
   rw [ew] at hN
   have hA := A4.out
   rw [HLW.out] at hA
   have MD := hid (Sto.made (B := W.heap.size) (ws := ws) B2.out.size R3.out hA B34.out B23.out.size (B45.out.trans (hN.st.below (B := w4.heap.size) (fun q hq => by omega) B45.out.size)) hN.box (M5.out.kept hN.st (by omega)) (hN.st.at S5.out (by omega)) (hN.row.lower (by omega)) (by omega) (Nat.le_refl _) (by omega) HOK.out)
   have BB := hid (BW5.out.trans (hN.st.below (B := W.heap.size) (fun q hq => by have := B2.out.size; have := B23.out.size; have := B34.out.size; omega) BW5.out.size))
   clear hN hA ew
   go_wp2_with fail
   obtain ⟨c, e1, e2, -⟩ := MD.out
   exact bodyPost_ret (v := .tuple #[.pointer (some ⟨w4.heap.size + 2, 0, none⟩), .nilIface]) (by simp [results, Tryz.results10, go_sem]) rfl ⟨_, rfl, c, e1, e2, BB.out⟩
end So
namespace So
open Go.RowKit Go.Shelf Go.Maps
open At (blk_seen)
open Rs (SD Prt okW remP pCells)
open Sc (Cmp SmallC SmallQ checkL)
def Fr (c : CV) (W : World) (k : Nat) (o : Obj) : Prop := c.f k = (0, 0, 0) ∧ W.heap[k]? = some o
theorem Fr.later {c : CV} {W W' : World} {k : Nat} {o : Obj} (h : Fr c W k o) (hb : Below W.heap.size W W') : Fr c W' k o := ⟨h.1, blk_seen hb (Nat.le_refl _) h.2⟩
theorem Fr.step {c c' : CV} {W W' : World} {k : Nat} {o : Obj} (h : Fr c W k o) (g : Gw c c' W W') : Fr c' W' k o := by
 refine ⟨Classical.byContradiction fun q => ?_, g.st.at h.2 fun q => q h.1⟩
 rcases g.new k q with e | e
 ·exact e h.1
 ·have := (Array.getElem?_eq_some_iff.1 h.2).1; omega
theorem Fr.new {ex : Option Nat} {B : Nat} {W : World} {sb : Nat} {c : CV} {s : SD} (h : Sto ex B W sb c s) (cs : Array Value) (t : TypeId) : Fr c (W.alloc (.cells cs t)) W.heap.size (.cells cs t (0, 0)) :=
 ⟨Classical.byContradiction fun q => by have := (h.lt _ q).2; omega, heap_alloc_new W _⟩
theorem Fr.prow {c : CV} {W : World} {k cap : Nat} {l : List Prt} {cur : Array Value} (h : Fr c W k (.cells cur 47 (0, 0))) (h3 : l.length ≤ cap) (h4 : cap ≤ maxLen) (h5 : cur.size = cap * 6) (h6 : cur.toList.take (l.length * 6) = pCells l) : PRowOut (fun k => c.f k ≠ (0, 0, 0)) W (.slice (some ⟨k, 0, none⟩) l.length cap) l :=
 prow_out (prts_of (N := 0) (Nat.zero_le _) h.2 h3 h4 h5 h6) fun k' hk q => q (by obtain rfl : k = k' := (by simpa [Value.ownBlock] using hk); exact h.1)
theorem Gw.below {ex : Option Nat} {B : Nat} {W W' : World} {sb : Nat} {c c' : CV} {s : SD} (h : Sto ex B W sb c s) (g : Gw c c' W W') (hB : B ≤ W.heap.size) : Below B W W' := g.st.below (fun k hk => (h.lt k hk).1) hB
def cmpsTwo : List Cmp := [⟨⟨#[97]⟩, 1, true, 0, 0, 0, 0⟩, ⟨⟨#[98]⟩, 2, false, 0, 0, 0, 0⟩]
theorem two_ok : checkL cmpsTwo [] = [] := by kernel_rfl
theorem two_small : SmallC cmpsTwo ∧ SmallQ [] := by
 refine ⟨⟨by decide, fun c hc => ?_⟩, by decide, fun c hc => by simp at hc⟩
 simp [cmpsTwo] at hc
 rcases hc with rfl | rfl <;> decide
theorem two_w : okW [1, 2] := by
 refine ⟨by decide, fun w hw => ?_⟩
 simp at hw
 rcases hw with rfl | rfl <;> decide
def q1 : List Prt := [⟨1, 0, 0, 0, 0, 0⟩, ⟨0, 5, 0, 0, 0, 0⟩]
def q2 : List Prt := [⟨0, 0, 0, 0, 0, 0⟩, ⟨1, 0, 0, 0, 0, 0⟩]
def s0 : SD := madeS [1, 2] 4
def s1 : SD := entered { s0 with r := s0.r.took 0 } 0 (sortP q1)
def s2 : SD := entered { s1 with r := s1.r.took 1 } 1 (sortP q2)
def s3 : SD := entered s2 1 (remP (s2.at 1) 1)
def s4 : SD := rowed s3 0 (putP (s3.at 0) (setQ ⟨0, 5, 0, 0, 0, 0⟩ 0 9 3))
theorem f0 : s0.r.free = [3, 2, 1] ++ [0] := by kernel_rfl
theorem f1 : s1.r.free = [3, 2] ++ [1] := by kernel_rfl
theorem k0 : chkL s0.ws q1 = 0 := by decide
theorem k1 : chkL s1.ws q2 = 0 := by decide
theorem a20 : al s2 0 1 := by unfold al; kernel_rfl
theorem a21 : al s2 1 1 := by unfold al; kernel_rfl
theorem a30 : al s3 0 1 := by unfold al; kernel_rfl
theorem a31 : al s3 1 1 := by unfold al; kernel_rfl
theorem p20 : s2.at 0 = [⟨0, 5, 0, 0, 0, 0⟩, ⟨1, 0, 0, 0, 0, 0⟩] := by kernel_rfl
theorem p21 : s2.at 1 = [⟨0, 0, 0, 0, 0, 0⟩, ⟨1, 0, 0, 0, 0, 0⟩] := by kernel_rfl
theorem p30 : s3.at 0 = [⟨0, 5, 0, 0, 0, 0⟩, ⟨1, 0, 0, 0, 0, 0⟩] := by kernel_rfl
theorem p31 : s3.at 1 = [⟨0, 0, 0, 0, 0, 0⟩] := by kernel_rfl
theorem n4 : s4.r.count = 2 := by kernel_rfl
theorem m4 : s4.sets.length = 3 := by kernel_rfl
theorem d4 : (matched s4 1 0).length = 2 ∧ (matched s4 1 2).length = 1 ∧ (changedL s4 0 3).length = 1 := by decide
theorem a4 : s4.r.aliveB 1 1 = true := by kernel_rfl
theorem g0 : s0.r.gens.getD 0 0 + 1 = 1 ∧ s1.r.gens.getD 1 0 + 1 = 1 := by decide
end So
namespace So
open Go.RowKit Go.Shelf Go.Maps
open Co (I64 Pt)
open At (bAl cell_blk Err)
open Ro (Ents)
open Rs (SD Prt remP pCells)
open Sc (Cmp CmpRow)
structure Aw (W1 : World) (sb : Nat) (s : SD) (t : Nat) (fr : List (Nat × Obj)) (w : World) : Prop where
 ex : ∃ c, Sto none W1.heap.size w sb c s ∧ c.t ≤ t ∧ ∀ x ∈ fr, Fr c w x.1 x.2
 bel : Below W1.heap.size W1 w
section
variable {W1 w w' : World} {sb : Nat} {s s' : SD} {t : Nat} {fr : List (Nat × Obj)} {Ad : Nat → Addr}
theorem Aw.later (h : Aw W1 sb s t fr w) (hb : Below w.heap.size w w') : Aw W1 sb s t fr w' := by
 obtain ⟨c, h1, h2, h3⟩ := h.ex
 exact ⟨⟨c, h1.later hb, h2, fun x hx => (h3 x hx).later hb⟩, h.bel.trans (hb.mono h.bel.size)⟩
theorem Aw.alloc (h : Aw W1 sb s t fr w) (cs : Array Value) (ty : TypeId) : Aw W1 sb s t ((w.heap.size, .cells cs ty (0, 0)) :: fr) (w.alloc (.cells cs ty)) := by
 obtain ⟨c, h1, h2, h3⟩ := h.ex
 have hb := bAl w (.cells cs ty)
 refine ⟨⟨c, h1.later hb, h2, fun x hx => ?_⟩, h.bel.trans (hb.mono h.bel.size)⟩
 rcases List.mem_cons.1 hx with rfl | hx
 ·exact Fr.new h1 cs ty
 ·exact (h3 x hx).later hb
theorem Aw.at (h : Aw W1 sb s t fr w) {k : Nat} {o : Obj} (hk : (k, o) ∈ fr) : w.heap[k]? = some o := by
 obtain ⟨c, h1, h2, h3⟩ := h.ex
 exact (h3 _ hk).2
theorem Aw.few (h : Aw W1 sb s t fr w) {fr' : List (Nat × Obj)} (hf : ∀ x ∈ fr', x ∈ fr) : Aw W1 sb s t fr' w := by
 obtain ⟨c, h1, h2, h3⟩ := h.ex
 exact ⟨⟨c, h1, h2, fun x hx => h3 x (hf x hx)⟩, h.bel⟩
theorem Aw.env (h : Aw W1 sb s t fr w) (hE : Env8 W1 Ad) : Env8 w Ad := hE.later h.bel
theorem Aw.go {c c' : CV} (h1 : Sto none W1.heap.size w sb c s) (h3 : ∀ x ∈ fr, Fr c w x.1 x.2) (hb : Below W1.heap.size W1 w) {t' : Nat} (e1 : Sto none W1.heap.size w' sb c' s') (e2 : c'.t ≤ t') (e3 : Gw c c' w w') : Aw W1 sb s' t' fr w' :=
 ⟨⟨c', e1, e2, fun x hx => (h3 x hx).step e3⟩, hb.trans ((Gw.below h1 e3 hb.size).mono (Nat.le_refl _))⟩
theorem aw_spawn (h : Aw W1 sb s t fr w) (hE : Env8 W1 Ad) (ht : t ≤ 900) {k : Nat} {cur : Array Value} {l : List Prt} {cap : Nat} (hk : (k, .cells cur 47 (0, 0)) ∈ fr) (h3 : l.length ≤ cap) (h4 : cap ≤ maxLen) (h5 : cur.size = cap * 6) (h6 : cur.toList.take (l.length * 6) = pCells l) (hl : l.length ≤ 90) (hc : chkL s.ws l = 0) (hti : ∀ p ∈ l, I64 p.t) {f : List Nat} {i g : Nat} (hf : s.r.free = f ++ [i]) (hg : s.r.gens.getD i 0 + 1 = g) :
  Calls Tryz.prog 16 #[.pointer (some ⟨sb, 0, none⟩), .slice (some ⟨k, 0, none⟩) l.length cap] w fun e w' => e = .returned (.tuple #[.agg #[.int .i64 (i : Int), .int .i64 (g : Int)], .nilIface]) ∧ Aw W1 sb (entered { s with r := s.r.took i } i (sortP l)) (t + 1) fr w' := by
 obtain ⟨c, e1, e2, e3⟩ := h.ex
 refine (spawn_ok Ad e1 (h.env hE) ((e3 _ hk).prow h3 h4 h5 h6) hl hc hti hf (by omega)).mono ?_
 rintro e w' ⟨rfl, c', q1, q2, q3⟩
 exact ⟨by rw [hg], Aw.go e1 e3 h.bel q1 (by omega) q3⟩
theorem aw_get (h : Aw W1 sb s t fr w) {i g : Nat} (ha : al s i g) (p : Prt) (hp : p ∈ s.at i) :
  Calls Tryz.prog 38 #[.pointer (some ⟨sb, 0, none⟩), .agg #[.int .i64 (i : Int), .int .i64 (g : Int)], .int .i64 p.c] w fun e w' => e = .returned (.tuple #[p.val, .nilIface]) ∧ Aw W1 sb s t fr w' := by
 obtain ⟨c, e1, e2, e3⟩ := h.ex
 refine (get_ok e1 ha p hp).mono ?_
 rintro e w' ⟨rfl, q⟩
 exact ⟨rfl, h.later q⟩
theorem aw_remove (h : Aw W1 sb s t fr w) {i g : Nat} (ha : al s i g) (p : Prt) (hp : p ∈ s.at i) :
  Calls Tryz.prog 23 #[.pointer (some ⟨sb, 0, none⟩), .agg #[.int .i64 (i : Int), .int .i64 (g : Int)], .int .i64 p.c] w fun e w' => e = .returned (.tuple #[p.val, .nilIface]) ∧ Aw W1 sb (entered s i (remP (s.at i) p.c)) t fr w' := by
 obtain ⟨c, e1, e2, e3⟩ := h.ex
 refine (remove_ok e1 ha p hp).mono ?_
 rintro e w' ⟨rfl, c', q1, q2, q3⟩
 exact ⟨rfl, Aw.go e1 e3 h.bel q1 (by omega) q3⟩
theorem aw_setno (h : Aw W1 sb s t fr w) (hE : Env8 W1 Ad) {i g : Nat} (ha : al s i g) (comp : Int) (hc : I64 comp) (hno : ∀ p ∈ s.at i, p.c ≠ comp) (cell value frame : Int) :
  Calls Tryz.prog 27 #[.pointer (some ⟨sb, 0, none⟩), .agg #[.int .i64 (i : Int), .int .i64 (g : Int)], .int .i64 comp, .int .i64 cell, .int .i64 value, .int .i64 frame] w fun e w' => ∃ tt qq, e = .returned (.tuple #[Pt.zero.val 0, .iface tt qq]) ∧ (∃ d, Err Ad w' (.iface tt qq) 7 d) ∧ Aw W1 sb s t fr w' := by
 obtain ⟨c, e1, e2, e3⟩ := h.ex
 refine (set_none e1 (h.env hE) ha comp hc hno cell value frame).mono ?_
 rintro e w' ⟨r, rfl, q1, q2⟩
 rcases q1 with ⟨e, -⟩ | ⟨-, tt, qq, rfl, hd⟩
 ·omega
 ·exact ⟨tt, qq, rfl, hd.elim fun _ z => ⟨_, z⟩, h.later q2⟩
theorem aw_match (h : Aw W1 sb s t fr w) (a b : Nat) (ha : a < 4294967296) (hb : b < 4294967296) :
  Calls Tryz.prog 30 #[.pointer (some ⟨sb, 0, none⟩), .int .u32 (a : Int), .int .u32 (b : Int)] w fun e w' => ∃ va vc, e = .returned (.slice va (matched s a b).length vc) ∧ Aw W1 sb s t fr w' := by
 obtain ⟨c, e1, e2, e3⟩ := h.ex
 refine (smatch_any e1 a b ha hb).mono ?_
 rintro e w' ⟨v, rfl, q1, q2⟩
 obtain ⟨va, vc, rfl⟩ := Ents.slice q1
 exact ⟨va, vc, rfl, h.later q2⟩
theorem aw_changed (h : Aw W1 sb s t fr w) (comp f : Int) (hc : I64 comp) :
  Calls Tryz.prog 32 #[.pointer (some ⟨sb, 0, none⟩), .int .i64 comp, .int .i64 f] w fun e w' => ∃ va vc, e = .returned (.slice va (changedL s comp f).length vc) ∧ Aw W1 sb s t fr w' := by
 obtain ⟨c, e1, e2, e3⟩ := h.ex
 refine (changed_any e1 comp f hc).mono ?_
 rintro e w' ⟨v, rfl, q1, q2⟩
 obtain ⟨va, vc, rfl⟩ := Ents.slice q1
 exact ⟨va, vc, rfl, h.later q2⟩
theorem aw_alive (h : Aw W1 sb s t fr w) (i g : Int) (hi : I64 i) (hg : I64 g) :
  Calls Tryz.prog 40 #[.pointer (some ⟨sb, 0, none⟩), .agg #[.int .i64 i, .int .i64 g]] w fun e w' => e = .returned (.bool (s.r.aliveB i g)) ∧ Aw W1 sb s t fr w' := by
 obtain ⟨c, e1, e2, e3⟩ := h.ex
 refine (alive_any e1 i g hi hg).mono ?_
 rintro e w' ⟨rfl, q2⟩
 exact ⟨rfl, h.later q2⟩
theorem aw_count (h : Aw W1 sb s t fr w) : Calls Tryz.prog 35 #[.pointer (some ⟨sb, 0, none⟩)] w fun e w' => e = .returned (.int .i64 (s.r.count : Int)) ∧ w' = w := by
 obtain ⟨c, e1, e2, e3⟩ := h.ex
 exact scount_any e1
theorem aw_tables (h : Aw W1 sb s t fr w) : Calls Tryz.prog 37 #[.pointer (some ⟨sb, 0, none⟩)] w fun e w' => e = .returned (.int .i64 (s.sets.length : Int)) ∧ w' = w := by
 obtain ⟨c, e1, e2, e3⟩ := h.ex
 exact tables_any e1
theorem aw_is (h : Aw W1 sb s t fr w) (hE : Env8 W1 Ad) {v : Value} {d : Nat} (hv : Err Ad w v 7 d) : Calls Tryz.prog 13 #[v, .iface 278 (.pointer (some (Ad 7)))] w fun e w' => e = .returned (.bool true) ∧ Aw W1 sb s t fr w' := by
 refine (Co.is_err Ad (Env8.three (h.env hE)) hv (k := 7) (by decide) (by decide)).mono ?_
 rintro e w' ⟨rfl, q⟩
 exact ⟨by simp, h.later q⟩
end
set_option maxHeartbeats 800000 in
set_option maxRecDepth 100000 in
theorem two_any (W : World) : Calls Tryz.prog 50 #[] W fun e W' => ∃ va, e = .returned (.agg #[va, .slice none 0 0]) ∧ CmpRow W' va cmpsTwo ∧ Below W.heap.size W W' := by
 go_enter Tryz.func50, Tryz.ntmps50
 go_wp2_with fail
 obtain ⟨b1, r1, p1⟩ := Rs.two_blk W #[.slice (some ⟨W.heap.size + 1, 0, none⟩) 2 2, .slice none 0 0] #[.string ⟨#[97]⟩, .int .i64 1, .bool true, .int .i64 0, .int .i64 0, .int .i64 0, .int .i64 0, .string ⟨#[98]⟩, .int .i64 2, .bool false, .int .i64 0, .int .i64 0, .int .i64 0, .int .i64 0] 25 99
 generalize (W.alloc (.cells #[.slice (some ⟨W.heap.size + 1, 0, none⟩) 2 2, .slice none 0 0] 25)).alloc (.cells #[.string ⟨#[97]⟩, .int .i64 1, .bool true, .int .i64 0, .int .i64 0, .int .i64 0, .int .i64 0, .string ⟨#[98]⟩, .int .i64 2, .bool false, .int .i64 0, .int .i64 0, .int .i64 0, .int .i64 0] 99) = w1 at *
 have x0 : w1.cell? ⟨W.heap.size, 0, none⟩ = some (.slice (some ⟨W.heap.size + 1, 0, none⟩) 2 2) := cell_blk r1 rfl
 have x1 : w1.cell? ⟨W.heap.size, 1, none⟩ = some (.slice none 0 0) := cell_blk r1 rfl
 refine bodyPost_ret (v := .agg #[.slice (some ⟨W.heap.size + 1, 0, none⟩) 2 2, .slice none 0 0]) (by simp [results, Tryz.results50, go_sem, x0, x1]) rfl ⟨_, rfl, ⟨_, 2, rfl, by decide, .inr ⟨W.heap.size + 1, 0, rfl, fun j x hj => ?_⟩⟩, b1⟩
 match j, hj with
 | 0, hj =>
  obtain rfl : (⟨⟨#[97]⟩, 1, true, 0, 0, 0, 0⟩ : Cmp) = x := by simpa [cmpsTwo] using hj
  exact ⟨cell_blk p1 rfl, cell_blk p1 rfl, cell_blk p1 rfl, cell_blk p1 rfl, cell_blk p1 rfl, cell_blk p1 rfl, cell_blk p1 rfl⟩
 | 1, hj =>
  obtain rfl : (⟨⟨#[98]⟩, 2, false, 0, 0, 0, 0⟩ : Cmp) = x := by simpa [cmpsTwo] using hj
  exact ⟨cell_blk p1 rfl, cell_blk p1 rfl, cell_blk p1 rfl, cell_blk p1 rfl, cell_blk p1 rfl, cell_blk p1 rfl, cell_blk p1 rfl⟩
 | j + 2, hj => simp [cmpsTwo] at hj
end So
namespace So
open Go.RowKit Go.Shelf Go.Maps
open Co (I64 Pt Col CS)
open At (St cell_blk blk_seen Err)
open Rs (SD Prt fitP)
theorem ch_kept {Ad : Nat → Addr} {N n₀ k : Nat} {W W' : World} {S : Nat → Prop} (hs : ∀ b, b < n₀ → ¬ S b → W'.heap[b]? = W.heap[b]?) (hn : ∀ b, S b → ∀ str, W.cell? ⟨b, 0, none⟩ ≠ some (.string str)) (hN : n₀ ≤ N) : ∀ {ws : List ByteArray} {v : Value}, Ch Ad n₀ W k ws v → Ch Ad N W' k ws v
 | [], _, hc => hc
 | _ :: _, _, ⟨b, inner, hv, hb, c0, c1, hi⟩ => by
  have e : W'.heap[b]? = W.heap[b]? := hs b hb fun q => hn b q _ c0
  refine ⟨b, inner, hv, by omega, ?_, ?_, ch_kept hs hn hN hi⟩
  ·rw [← c0]; simp only [World.cell?, e]
  ·rw [← c1]; simp only [World.cell?, e]
theorem cell_int {B : Nat} {W : World} {v : Value} {n : Nat} {xs : List Value} {t : TypeId} {z : Nat} (h : W.ownsRow B t z v n xs) (hz : 0 < z) (hx : ∀ u ∈ xs, ∃ i, u = .int .i64 i) {k : Nat} (hk : v.ownBlock = some k) (hn : 0 < n) (str : ByteArray) : W.cell? ⟨k, 0, none⟩ ≠ some (.string str) := fun e => by
 have hlen := h.1
 have h0 : 0 < xs.length := by rw [hlen]; exact Nat.mul_pos hn hz
 obtain ⟨u, hu⟩ := at_lt xs 0 h0
 have := World.ownsRow.cells h hk 0 u hu
 rw [add_at] at this
 change W.cell? ⟨k, 0, none⟩ = some u at this
 rw [this] at e
 obtain ⟨i, rfl⟩ := hx u (List.mem_of_getElem? hu)
 simp at e
theorem col_nostr {B : Nat} {W : World} {rb : Nat} {s : CS} {S : Nat → Prop} (h : Col B W rb s S) (hne : 0 < s.rows.length) {k : Nat} (hk : S k) (str : ByteArray) : W.cell? ⟨k, 0, none⟩ ≠ some (.string str) := by
 obtain ⟨mb, sv, h1, h2⟩ := h
 rcases (h2 k).1 hk with rfl | rfl | hv
 ·intro e
  rw [cell_blk h1.box rfl] at e
  simp at e
 ·intro e
  obtain ⟨D, ⟨es, cl, hb, -⟩, -⟩ := h1.map
  simp [World.cell?, hb] at e
 ·refine cell_int h1.row (by decide) (fun u hu => ?_) hv (Nat.mul_pos hne h1.ok.1) str
  obtain ⟨p, -, hp⟩ := List.mem_flatMap.1 hu
  obtain ⟨i, -, rfl⟩ := List.mem_map.1 hp
  exact ⟨i, rfl⟩
def Ke (W w : World) : Prop := W.heap.size ≤ w.heap.size ∧ ∀ (Ad : Nat → Addr) k ws v, Ch Ad W.heap.size W k ws v → Ch Ad W.heap.size w k ws v
theorem Ke.below {W w w' : World} (h : Ke W w) (hb : Below W.heap.size w w') : Ke W w' := ⟨Nat.le_trans h.1 hb.size, fun Ad k ws v hv => Ch.below hb (h.2 Ad k ws v hv)⟩
theorem Ke.of {W w : World} (hb : Below W.heap.size W w) : Ke W w := ⟨hb.size, fun _ _ _ _ hv => Ch.below hb hv⟩
theorem Ke.err {W w : World} {Ad : Nat → Addr} {v : Value} {k d : Nat} (h : Ke W w) (hv : Err Ad W v k d) : Err Ad w v k d := by
 obtain ⟨ws, h1, h2⟩ := hv
 exact ⟨ws, Ch.wider h.1 (h.2 Ad k ws v h1), h2⟩
section
variable {B : Nat} {W : World} {sb : Nat} {c : CV} {s : SD} {i g : Nat}
theorem set_ok2 (h : Sto none B W sb c s) (ha : al s i g) (q : Prt) (hq : q ∈ s.at i) {cc w : Nat} (hcc : q.c = (cc : Int)) (hw : s.ws[cc]? = some w) (j' : Nat) (hj' : j' < w) (value frame : Int) (hfr : I64 frame) :
  Calls Tryz.prog 27 #[.pointer (some ⟨sb, 0, none⟩), .agg #[.int .i64 (i : Int), .int .i64 (g : Int)], .int .i64 q.c, .int .i64 (j' : Int), .int .i64 value, .int .i64 frame] W fun e W' => e = .returned (.tuple #[q.val, .nilIface]) ∧ Tn B W sb c (rowed s i (putP (s.at i) (setQ q j' value frame))) W' ∧ Ke W W' := by
 obtain ⟨b1, r1, y1, y2, y3, z1, sz⟩ := sw_facts W (i : Int) (g : Int) (j' : Int) value frame
 obtain ⟨n, j, m, own, y, A⟩ := h.stands ha (by simp)
 have hw4 := h.okw.2 w (List.mem_of_getElem? hw)
 have hc16 : cc < 16 := by have := (A.ok.1.2 q hq).2; have := h.okw.1; omega
 have hbit := has_bit A.msk A.ok.1 hq hcc
 have hlt : ∀ k, c.f k ≠ (0, 0, 0) → k < W.heap.size := fun k hk => (h.lt k hk).2
 have hf : fitP s.ws (setQ q j' value frame) = true := by
  rw [Rs.fit_in (p := setQ q j' value frame) hcc hw]
  show ((pt q).put j' value frame).fitB w = true
  rw [Pt.put_fit _ hw4.2 hj']
  have := (A.ok.2 q hq).1
  rw [Rs.fit_in hcc hw] at this
  exact this
 have ht : I64 (setQ q j' value frame).t := by show I64 ((pt q).put j' value frame).t; rw [put_t]; exact hfr
 have hst : ∀ {a b : World} {RB : Nat}, W.heap.size ≤ RB → (Tn B W sb c (rowed s i (putP (s.at i) (setQ q j' value frame))) a ∧ Ke W a) → St (fun k => k = RB) a b → (Tn B W sb c (rowed s i (putP (s.at i) (setQ q j' value frame))) b ∧ Ke W b) := fun hR e hs => ⟨e.1.st hlt hR hs, e.2.below (hs.below (B := W.heap.size) (fun k hk => by omega) e.2.1)⟩
 refine Calls.mono (set_tail (Ad := fun _ => ⟨0, 0, none⟩) (W := W) (i := (i : Int)) (g := (g : Int)) (cm := (cc : Int)) (u := pt q) (k := 0) (Q := fun w => Tn B W sb c (rowed s i (putP (s.at i) (setQ q j' value frame))) w ∧ Ke W w) ⟨fun _ _ e hb => ⟨e.1.later hb, e.2.below (hb.mono e.2.1)⟩, fun _ _ e hs => hst (by omega) e hs⟩ (.inl rfl) ?_) ?_
 ·rw [hcc]
  refine (part_ok (h.later b1) ha A cc hc16 hbit 83 #[.pointer (some ⟨W.heap.size + 1, 0, none⟩), .pointer (some ⟨W.heap.size + 2, 0, none⟩), .pointer (some ⟨W.heap.size + 3, 0, none⟩)] enters_set1 (pt q) (fun w => (Tn B W sb c (rowed s i (putP (s.at i) (setQ q j' value frame))) w ∧ Ke W w) ∧ w.heap[W.heap.size + 4]? = some (.cells (Pt.zero.arr 0) 47 (0, 0))) (fun w w' e hs => ⟨hst (by omega) e.1 hs, hs.at e.2 (by omega)⟩) fun W2 hb2 _ => ?_).mono ?_
  ·have b2 := b1.trans (hb2.mono b1.size)
   obtain ⟨w', hw', hcol⟩ := ((h.later b2).tabOf A).col cc hbit
   obtain rfl : w = w' := by rw [hw] at hw'; simpa using hw'
   refine (set1_any hcol j (pt q) (row_here A.here A.ok.1 hq hcc) j' hj' value frame hfr (W.heap.size + 1) (W.heap.size + 2) (W.heap.size + 3) (cell_blk (blk_seen hb2 (Nat.le_refl _) y1) rfl) (cell_blk (blk_seen hb2 (Nat.le_refl _) y2) rfl) (cell_blk (blk_seen hb2 (Nat.le_refl _) y3) rfl)).mono ?_
   rintro e W3 ⟨rfl, e1, e2⟩
   obtain ⟨⟨u1, u2⟩, u3⟩ := h.turned A ha hf ht hq rfl hcc hw b2 e1 e2 b1.size (by omega) (blk_seen hb2 (Nat.le_refl _) z1)
   refine ⟨rfl, ⟨⟨u1, ?_⟩, u2⟩, u3⟩
   have hne : 0 < (rowsOf s own cc).length := by
    have := (List.getElem?_eq_some_iff.1 A.here).1
    simp [rowsOf]; omega
   have k2 := Ke.of b2
   refine ⟨Nat.le_trans k2.1 e2.size, fun Ad' k' ws' v' hv' => ?_⟩
   exact ch_kept (S := fun k => c.f k = (5, n, cc)) (fun b hb hS => e2.block b (Nat.lt_of_lt_of_le hb k2.1) hS) (fun b hb str => col_nostr hcol hne hb str) (Nat.le_refl _) (k2.2 Ad' k' ws' v' hv')
  ·rintro e w ⟨rfl, e1, e2⟩
   exact ⟨_, rfl, Er.none _ w, e1, e2⟩
 ·rintro e w ⟨r, rfl, e1, e2⟩
  obtain rfl := Er.zero e1
  refine ⟨?_, e2⟩
  rw [pt_val, hcc]
end
theorem aw_set2 {W1 w : World} {sb : Nat} {s : SD} {t : Nat} {fr : List (Nat × Obj)} (h : Aw W1 sb s t fr w) {i g : Nat} (ha : al s i g) (q : Prt) (hq : q ∈ s.at i) {cc wd : Nat} (hcc : q.c = (cc : Int)) (hw : s.ws[cc]? = some wd) (j : Nat) (hj : j < wd) (value frame : Int) (hfr : I64 frame) :
  Calls Tryz.prog 27 #[.pointer (some ⟨sb, 0, none⟩), .agg #[.int .i64 (i : Int), .int .i64 (g : Int)], .int .i64 q.c, .int .i64 (j : Int), .int .i64 value, .int .i64 frame] w fun e w' => e = .returned (.tuple #[q.val, .nilIface]) ∧ Aw W1 sb (rowed s i (putP (s.at i) (setQ q j value frame))) t fr w' ∧ Ke w w' := by
 obtain ⟨c, e1, e2, e3⟩ := h.ex
 refine (set_ok2 e1 ha q hq hcc hw j hj value frame hfr).mono ?_
 rintro e w' ⟨rfl, ⟨c', q1, q2, -, q3⟩, q4⟩
 exact ⟨rfl, Aw.go e1 e3 h.bel q1 (by omega) q3, q4⟩
end So
namespace So
open Go.RowKit Go.Shelf Go.Maps
open Co (I64_mid eqlP)
open At (bAl cell_blk Err)
set_option maxHeartbeats 6400000 in
set_option maxRecDepth 100000 in
theorem awake_any (Ad : Nat → Addr) (W : World) (hE : Env8 W Ad) : Calls Tryz.prog 8 #[] W fun e W' => e = .returned (.bool true) ∧ Below W.heap.size W W' := by
 have TW := hid (two_any W)
 have HE := hid hE
 have EQ := eqlP
 clear hE
 go_enter Tryz.func8, Tryz.ntmps8
 go_wp2_with fail
 refine TW.out.mono ?_
 rintro e w1 ⟨va, rfl, hC, hb1⟩
 have E1 := hid (HE.out.later hb1)
 have B1 := hid hb1
 have NW := hid (new_ok Ad w1 va (.slice none 0 0) cmpsTwo [] E1.out hC ⟨none, 0, rfl, Nat.le_refl _, .inl rfl⟩ two_small.1 two_small.2 two_ok [1, 2] rfl two_w 4 (by decide))
 clear hC hb1 TW
 go_wp2_with fail
 refine NW.out.mono ?_
 rintro e w2 ⟨sb, rfl, hn⟩
 have A2 : Hid (Aw w1 sb s0 0 [] w2) := by
  obtain ⟨c, q1, q2, q3⟩ := hn
  exact ⟨⟨c, q1, by omega, fun x hx => by simp at hx⟩, q3⟩
 have SP1 : Hid (Calls Tryz.prog 16 #[.pointer (some ⟨sb, 0, none⟩), .slice (some ⟨w2.heap.size, 0, none⟩) 2 2] (w2.alloc (.cells #[.int .i64 1, .int .i64 0, .int .i64 0, .int .i64 0, .int .i64 0, .int .i64 0, .int .i64 0, .int .i64 5, .int .i64 0, .int .i64 0, .int .i64 0, .int .i64 0] 47)) fun e w' => e = .returned (.tuple #[.agg #[.int .i64 0, .int .i64 1], .nilIface]) ∧ Aw w1 sb s1 1 [] w') :=
  (aw_spawn (A2.out.alloc #[.int .i64 1, .int .i64 0, .int .i64 0, .int .i64 0, .int .i64 0, .int .i64 0, .int .i64 0, .int .i64 5, .int .i64 0, .int .i64 0, .int .i64 0, .int .i64 0] 47) E1.out (by omega) (l := q1) (cap := 2) (List.mem_cons_self ..) (by decide) (by decide) rfl rfl (by decide) k0 (fun p hp => by simp [q1] at hp; rcases hp with rfl | rfl <;> exact I64_mid (by decide) (by decide)) f0 g0.1).mono fun e w' h => ⟨h.1, h.2.few fun x hx => by simp at hx⟩
 clear hn NW A2
 go_wp2_with fail
 refine SP1.out.mono ?_
 rintro e w3 ⟨rfl, hA3⟩
 obtain ⟨v3, hv3⟩ : ∃ v3, v3 = w3.alloc (.cells #[.int .i64 0, .int .i64 1] 43) := ⟨_, rfl⟩
 have A3 := hid (hA3.alloc #[.int .i64 0, .int .i64 1] 43)
 rw [← hv3] at A3
 have HV3 := hid hv3
 have SP2 : Hid (Calls Tryz.prog 16 #[.pointer (some ⟨sb, 0, none⟩), .slice (some ⟨v3.heap.size, 0, none⟩) 2 2] (v3.alloc (.cells #[.int .i64 0, .int .i64 0, .int .i64 0, .int .i64 0, .int .i64 0, .int .i64 0, .int .i64 1, .int .i64 0, .int .i64 0, .int .i64 0, .int .i64 0, .int .i64 0] 47)) fun e w' => e = .returned (.tuple #[.agg #[.int .i64 1, .int .i64 1], .nilIface]) ∧ Aw w1 sb s2 2 [(w3.heap.size, .cells #[.int .i64 0, .int .i64 1] 43 (0, 0))] w') :=
  (aw_spawn (A3.out.alloc #[.int .i64 0, .int .i64 0, .int .i64 0, .int .i64 0, .int .i64 0, .int .i64 0, .int .i64 1, .int .i64 0, .int .i64 0, .int .i64 0, .int .i64 0, .int .i64 0] 47) E1.out (by omega) (l := q2) (cap := 2) (List.mem_cons_self ..) (by decide) (by decide) rfl rfl (by decide) k1 (fun p hp => by simp [q2] at hp; rcases hp with rfl | rfl <;> exact I64_mid (by decide) (by decide)) f1 g0.2).mono fun e w' h => ⟨h.1, h.2.few fun x hx => List.mem_cons_of_mem _ hx⟩
 clear hA3 hv3 SP1 A3
 go_upto_region 5 with fail
 rw [← HV3.out]
 go_wp2_with fail
 refine SP2.out.mono ?_
 rintro e w4 ⟨rfl, hA4⟩
 obtain ⟨v4, hv4⟩ : ∃ v4, v4 = w4.alloc (.cells #[.int .i64 1, .int .i64 1] 43) := ⟨_, rfl⟩
 have A4 := hid (hA4.alloc #[.int .i64 1, .int .i64 1] 43)
 rw [← hv4] at A4
 have HV4 := hid hv4
 have x0 := cell_blk (A4.out.at (List.mem_cons_of_mem _ (List.mem_cons_self ..))) (j := 0) rfl
 have x1 := cell_blk (A4.out.at (List.mem_cons_of_mem _ (List.mem_cons_self ..))) (j := 1) rfl
 have GT : Hid (Calls Tryz.prog 38 #[.pointer (some ⟨sb, 0, none⟩), .agg #[.int .i64 0, .int .i64 1], .int .i64 0] v4 fun e w' => e = .returned (.tuple #[.agg #[.int .i64 0, .int .i64 5, .int .i64 0, .int .i64 0, .int .i64 0, .int .i64 0], .nilIface]) ∧ Aw w1 sb s2 2 [(w4.heap.size, .cells #[.int .i64 1, .int .i64 1] 43 (0, 0)), (w3.heap.size, .cells #[.int .i64 0, .int .i64 1] 43 (0, 0))] w') :=
  aw_get A4.out a20 ⟨0, 5, 0, 0, 0, 0⟩ (by rw [p20]; simp)
 clear hA4 hv4 SP2 A4 HV3
 go_upto_region 6 with fail
 rw [← HV4.out]
 go_wp2_with fail
 refine GT.out.mono ?_
 rintro e w5 ⟨rfl, hA5⟩
 obtain ⟨v5, hv5⟩ : ∃ v5, v5 = w5.alloc (.cells #[.int .i64 0, .int .i64 5, .int .i64 0, .int .i64 0, .int .i64 0, .int .i64 0] 47) := ⟨_, rfl⟩
 have A5 := hid (hA5.alloc #[.int .i64 0, .int .i64 5, .int .i64 0, .int .i64 0, .int .i64 0, .int .i64 0] 47)
 rw [← hv5] at A5
 have HV5 := hid hv5
 have y0 := cell_blk (A5.out.at (List.mem_cons_of_mem _ (List.mem_cons_self ..))) (j := 0) rfl
 have y1 := cell_blk (A5.out.at (List.mem_cons_of_mem _ (List.mem_cons_self ..))) (j := 1) rfl
 have RM : Hid (Calls Tryz.prog 23 #[.pointer (some ⟨sb, 0, none⟩), .agg #[.int .i64 1, .int .i64 1], .int .i64 1] v5 fun e w' => e = .returned (.tuple #[.agg #[.int .i64 1, .int .i64 0, .int .i64 0, .int .i64 0, .int .i64 0, .int .i64 0], .nilIface]) ∧ Aw w1 sb s3 2 [(w5.heap.size, .cells #[.int .i64 0, .int .i64 5, .int .i64 0, .int .i64 0, .int .i64 0, .int .i64 0] 47 (0, 0)), (w4.heap.size, .cells #[.int .i64 1, .int .i64 1] 43 (0, 0)), (w3.heap.size, .cells #[.int .i64 0, .int .i64 1] 43 (0, 0))] w') :=
  aw_remove A5.out a21 ⟨1, 0, 0, 0, 0, 0⟩ (by rw [p21]; simp)
 clear hA5 hv5 GT A5 HV4 x0 x1
 go_upto_region 7 with fail
 rw [← HV5.out]
 go_wp2_with fail
 refine RM.out.mono ?_
 rintro e w6 ⟨rfl, hA6⟩
 obtain ⟨v6, hv6⟩ : ∃ v6, v6 = w6.alloc (.cells #[.int .i64 1, .int .i64 0, .int .i64 0, .int .i64 0, .int .i64 0, .int .i64 0] 47) := ⟨_, rfl⟩
 have b6 := bAl w6 (.cells #[.int .i64 1, .int .i64 0, .int .i64 0, .int .i64 0, .int .i64 0, .int .i64 0] 47)
 have A6 := hid (hA6.later b6)
 rw [← hv6] at A6
 have HV6 := hid hv6
 have y0 := cell_blk (A6.out.at (List.mem_cons_of_mem _ (List.mem_cons_self ..))) (j := 0) rfl
 have y1 := cell_blk (A6.out.at (List.mem_cons_of_mem _ (List.mem_cons_self ..))) (j := 1) rfl
 have SN : Hid (Calls Tryz.prog 27 #[.pointer (some ⟨sb, 0, none⟩), .agg #[.int .i64 1, .int .i64 1], .int .i64 1, .int .i64 0, .int .i64 0, .int .i64 0] v6 fun e w' => ∃ tt qq, e = .returned (.tuple #[.agg #[.int .i64 0, .int .i64 0, .int .i64 0, .int .i64 0, .int .i64 0, .int .i64 0], .iface tt qq]) ∧ (∃ d, Err Ad w' (.iface tt qq) 7 d) ∧ Aw w1 sb s3 2 [(w5.heap.size, .cells #[.int .i64 0, .int .i64 5, .int .i64 0, .int .i64 0, .int .i64 0, .int .i64 0] 47 (0, 0)), (w4.heap.size, .cells #[.int .i64 1, .int .i64 1] 43 (0, 0)), (w3.heap.size, .cells #[.int .i64 0, .int .i64 1] 43 (0, 0))] w') :=
  aw_setno A6.out E1.out a31 1 (I64_mid (by decide) (by decide)) (fun p hp => by rw [p31] at hp; simp at hp; subst hp; decide) 0 0 0
 clear hA6 hv6 RM A6 HV5 b6
 go_upto_region 8 with fail
 rw [← HV6.out]
 go_wp2_with fail
 refine SN.out.mono ?_
 rintro e w7 ⟨tt, qq, rfl, ⟨d7, he7⟩, hA7⟩
 obtain ⟨v7, hv7⟩ : ∃ v7, v7 = w7.alloc (.cells #[.int .i64 0, .int .i64 0, .int .i64 0, .int .i64 0, .int .i64 0, .int .i64 0] 47) := ⟨_, rfl⟩
 have b7 := bAl w7 (.cells #[.int .i64 0, .int .i64 0, .int .i64 0, .int .i64 0, .int .i64 0, .int .i64 0] 47)
 have A7 := hid (hA7.later b7)
 have R7 := hid (he7.later b7)
 rw [← hv7] at A7 R7
 have HV7 := hid hv7
 have x0 := cell_blk (A7.out.at (List.mem_cons_of_mem _ (List.mem_cons_of_mem _ (List.mem_cons_self ..)))) (j := 0) rfl
 have x1 := cell_blk (A7.out.at (List.mem_cons_of_mem _ (List.mem_cons_of_mem _ (List.mem_cons_self ..)))) (j := 1) rfl
 have ST : Hid (Calls Tryz.prog 27 #[.pointer (some ⟨sb, 0, none⟩), .agg #[.int .i64 0, .int .i64 1], .int .i64 0, .int .i64 0, .int .i64 9, .int .i64 3] v7 fun e w' => e = .returned (.tuple #[.agg #[.int .i64 0, .int .i64 5, .int .i64 0, .int .i64 0, .int .i64 0, .int .i64 0], .nilIface]) ∧ Aw w1 sb s4 2 [(w5.heap.size, .cells #[.int .i64 0, .int .i64 5, .int .i64 0, .int .i64 0, .int .i64 0, .int .i64 0] 47 (0, 0)), (w4.heap.size, .cells #[.int .i64 1, .int .i64 1] 43 (0, 0)), (w3.heap.size, .cells #[.int .i64 0, .int .i64 1] 43 (0, 0))] w' ∧ Ke v7 w') :=
  aw_set2 A7.out a30 ⟨0, 5, 0, 0, 0, 0⟩ (by rw [p30]; simp) (cc := 0) (wd := 1) rfl rfl 0 (by decide) 9 3 (I64_mid (by decide) (by decide))
 clear hA7 he7 hv7 SN A7 HV6 b7 y0 y1
 go_upto_region 9 with fail
 rw [← HV7.out]
 go_wp2_with fail
 refine ST.out.mono ?_
 rintro e w8 ⟨rfl, hA8, hK8⟩
 obtain ⟨v8, hv8⟩ : ∃ v8, v8 = w8.alloc (.cells #[.int .i64 0, .int .i64 5, .int .i64 0, .int .i64 0, .int .i64 0, .int .i64 0] 47) := ⟨_, rfl⟩
 have A8 := hid (hA8.alloc #[.int .i64 0, .int .i64 5, .int .i64 0, .int .i64 0, .int .i64 0, .int .i64 0] 47)
 have b8 := bAl w8 (.cells #[.int .i64 0, .int .i64 5, .int .i64 0, .int .i64 0, .int .i64 0, .int .i64 0] 47)
 have R8 := hid ((hK8.err R7.out).later b8)
 rw [← hv8] at A8 R8
 have HV8 := hid hv8
 clear hA8 hK8 hv8 ST R7 HV7 b8 x0 x1
 go_upto_region 10 with fail
 rw [← HV8.out]
 have p1 : v8.cell? ⟨w5.heap.size, 1, none⟩ = some (.int .i64 5) := cell_blk (A8.out.at (List.mem_cons_of_mem _ (List.mem_cons_self ..))) rfl
 have c7 := e7 (A8.out.env E1.out)
 have IS := hid (aw_is A8.out E1.out R8.out)
 clear HV8
 go_wp2_with fail
 refine IS.out.mono ?_
 rintro e w9 ⟨rfl, hA9⟩
 have A9 := hid hA9
 have p0 : w9.cell? ⟨w5.heap.size, 0, none⟩ = some (.int .i64 0) := cell_blk (hA9.at (List.mem_cons_of_mem _ (List.mem_cons_self ..))) rfl
 have p1 : w9.cell? ⟨w5.heap.size, 1, none⟩ = some (.int .i64 5) := cell_blk (hA9.at (List.mem_cons_of_mem _ (List.mem_cons_self ..))) rfl
 have p2 : w9.cell? ⟨w5.heap.size, 2, none⟩ = some (.int .i64 0) := cell_blk (hA9.at (List.mem_cons_of_mem _ (List.mem_cons_self ..))) rfl
 have p3 : w9.cell? ⟨w5.heap.size, 3, none⟩ = some (.int .i64 0) := cell_blk (hA9.at (List.mem_cons_of_mem _ (List.mem_cons_self ..))) rfl
 have p4 : w9.cell? ⟨w5.heap.size, 4, none⟩ = some (.int .i64 0) := cell_blk (hA9.at (List.mem_cons_of_mem _ (List.mem_cons_self ..))) rfl
 have p5 : w9.cell? ⟨w5.heap.size, 5, none⟩ = some (.int .i64 0) := cell_blk (hA9.at (List.mem_cons_of_mem _ (List.mem_cons_self ..))) rfl
 have r0 : w9.cell? ⟨w8.heap.size, 0, none⟩ = some (.int .i64 0) := cell_blk (hA9.at (List.mem_cons_self ..)) rfl
 have r1 : w9.cell? ⟨w8.heap.size, 1, none⟩ = some (.int .i64 5) := cell_blk (hA9.at (List.mem_cons_self ..)) rfl
 have r2 : w9.cell? ⟨w8.heap.size, 2, none⟩ = some (.int .i64 0) := cell_blk (hA9.at (List.mem_cons_self ..)) rfl
 have r3 : w9.cell? ⟨w8.heap.size, 3, none⟩ = some (.int .i64 0) := cell_blk (hA9.at (List.mem_cons_self ..)) rfl
 have r4 : w9.cell? ⟨w8.heap.size, 4, none⟩ = some (.int .i64 0) := cell_blk (hA9.at (List.mem_cons_self ..)) rfl
 have r5 : w9.cell? ⟨w8.heap.size, 5, none⟩ = some (.int .i64 0) := cell_blk (hA9.at (List.mem_cons_self ..)) rfl
 have CN : Hid (Calls Tryz.prog 35 #[.pointer (some ⟨sb, 0, none⟩)] w9 fun e w' => e = .returned (.int .i64 2) ∧ w' = w9) := by
  have := aw_count hA9
  rw [n4] at this
  exact this
 have TB : Hid (Calls Tryz.prog 37 #[.pointer (some ⟨sb, 0, none⟩)] w9 fun e w' => e = .returned (.int .i64 3) ∧ w' = w9) := by
  have := aw_tables hA9
  rw [m4] at this
  exact this
 have M1 : Hid (Calls Tryz.prog 30 #[.pointer (some ⟨sb, 0, none⟩), .int .u32 1, .int .u32 0] w9 fun e w' => ∃ va vc, e = .returned (.slice va 2 vc) ∧ Aw w1 sb s4 2 [(w8.heap.size, .cells #[.int .i64 0, .int .i64 5, .int .i64 0, .int .i64 0, .int .i64 0, .int .i64 0] 47 (0, 0)), (w5.heap.size, .cells #[.int .i64 0, .int .i64 5, .int .i64 0, .int .i64 0, .int .i64 0, .int .i64 0] 47 (0, 0)), (w4.heap.size, .cells #[.int .i64 1, .int .i64 1] 43 (0, 0)), (w3.heap.size, .cells #[.int .i64 0, .int .i64 1] 43 (0, 0))] w') := by
  have := aw_match hA9 1 0 (by decide) (by decide)
  rw [d4.1] at this
  exact this
 clear IS A8 R8 c7 hA9
 go_wp2_with fail
 refine CN.out.mono ?_
 rintro e w' ⟨rfl, hq⟩
 obtain rfl := hq.symm
 go_wp2_with fail
 refine TB.out.mono ?_
 rintro e w' ⟨rfl, hq⟩
 obtain rfl := hq.symm
 go_wp2_with fail
 refine M1.out.mono ?_
 rintro e w10 ⟨va1, vc1, rfl, hA10⟩
 have M2 : Hid (Calls Tryz.prog 30 #[.pointer (some ⟨sb, 0, none⟩), .int .u32 1, .int .u32 2] w10 fun e w' => ∃ va vc, e = .returned (.slice va 1 vc) ∧ Aw w1 sb s4 2 [(w8.heap.size, .cells #[.int .i64 0, .int .i64 5, .int .i64 0, .int .i64 0, .int .i64 0, .int .i64 0] 47 (0, 0)), (w5.heap.size, .cells #[.int .i64 0, .int .i64 5, .int .i64 0, .int .i64 0, .int .i64 0, .int .i64 0] 47 (0, 0)), (w4.heap.size, .cells #[.int .i64 1, .int .i64 1] 43 (0, 0)), (w3.heap.size, .cells #[.int .i64 0, .int .i64 1] 43 (0, 0))] w') := by
  have := aw_match hA10 1 2 (by decide) (by decide)
  rw [d4.2.1] at this
  exact this
 clear CN TB M1 hA10 p0 p1 p2 p3 p4 p5 r0 r1 r2 r3 r4 r5
 go_wp2_with fail
 refine M2.out.mono ?_
 rintro e w11 ⟨va2, vc2, rfl, hA11⟩
 have CH : Hid (Calls Tryz.prog 32 #[.pointer (some ⟨sb, 0, none⟩), .int .i64 0, .int .i64 3] w11 fun e w' => ∃ va vc, e = .returned (.slice va 1 vc) ∧ Aw w1 sb s4 2 [(w8.heap.size, .cells #[.int .i64 0, .int .i64 5, .int .i64 0, .int .i64 0, .int .i64 0, .int .i64 0] 47 (0, 0)), (w5.heap.size, .cells #[.int .i64 0, .int .i64 5, .int .i64 0, .int .i64 0, .int .i64 0, .int .i64 0] 47 (0, 0)), (w4.heap.size, .cells #[.int .i64 1, .int .i64 1] 43 (0, 0)), (w3.heap.size, .cells #[.int .i64 0, .int .i64 1] 43 (0, 0))] w') := by
  have := aw_changed hA11 0 3 (I64_mid (by decide) (by decide))
  rw [d4.2.2] at this
  exact this
 clear M2 hA11
 go_wp2_with fail
 refine CH.out.mono ?_
 rintro e w12 ⟨va3, vc3, rfl, hA12⟩
 have y0 : w12.cell? ⟨w4.heap.size, 0, none⟩ = some (.int .i64 1) := cell_blk (hA12.at (List.mem_cons_of_mem _ (List.mem_cons_of_mem _ (List.mem_cons_self ..)))) rfl
 have y1 : w12.cell? ⟨w4.heap.size, 1, none⟩ = some (.int .i64 1) := cell_blk (hA12.at (List.mem_cons_of_mem _ (List.mem_cons_of_mem _ (List.mem_cons_self ..)))) rfl
 have AL : Hid (Calls Tryz.prog 40 #[.pointer (some ⟨sb, 0, none⟩), .agg #[.int .i64 1, .int .i64 1]] w12 fun e w' => e = .returned (.bool true) ∧ Aw w1 sb s4 2 [(w8.heap.size, .cells #[.int .i64 0, .int .i64 5, .int .i64 0, .int .i64 0, .int .i64 0, .int .i64 0] 47 (0, 0)), (w5.heap.size, .cells #[.int .i64 0, .int .i64 5, .int .i64 0, .int .i64 0, .int .i64 0, .int .i64 0] 47 (0, 0)), (w4.heap.size, .cells #[.int .i64 1, .int .i64 1] 43 (0, 0)), (w3.heap.size, .cells #[.int .i64 0, .int .i64 1] 43 (0, 0))] w') := by
  have := aw_alive hA12 1 1 (I64_mid (by decide) (by decide)) (I64_mid (by decide) (by decide))
  rw [a4] at this
  exact this
 clear CH hA12
 go_wp2_with fail
 refine AL.out.mono ?_
 rintro e w13 ⟨rfl, hA13⟩
 have BB := hid (B1.out.trans (hA13.bel.mono B1.out.size))
 clear hA13 AL
 go_wp2_with fail
 go_ret
 exact ⟨rfl, BB.out⟩
end So
namespace Sc
open Go.ChangeShapes Go.WideShapes Go.ChangeAt Go.RowKit
theorem cellsCmp : Tryz.prog.cellsOf 99 = 7 := by kernel_rfl
theorem cellsRsc : Tryz.prog.cellsOf 101 = 2 := by kernel_rfl
theorem cellsA4 : Tryz.prog.cellsOf 45 = 4 := by kernel_rfl
theorem cellsSch : Tryz.prog.cellsOf 25 = 2 := by kernel_rfl
theorem cellsInt : Tryz.prog.cellsOf 3 = 1 := by kernel_rfl
theorem add_plain3 (b o j : Nat) : (⟨b, o, none⟩ : Addr).add j = ⟨b, o + j, none⟩ := by unfold Addr.add; split <;> simp_all
theorem arr4_of {H : Type} {enc : TypeId × Value → H} {W : World} {fuel : Nat} {cs : List Value} {x : DataW H × List MemPlace} (h : DataW.trod enc Tryz.prog W 0 (fun _ => true) true fuel 45 cs = some x) : ∃ d0 d1 d2 d3 : Int, cs = [.int .i64 d0, .int .i64 d1, .int .i64 d2, .int .i64 d3] := by
 obtain ⟨xs, m, _, _, hl, hx, hf⟩ := DataW.trod_array Tryz.underlying45 h
 rw [cellsA4] at hl
 simp only [cellsInt] at hf
 match cs, hl with
 | [c0, c1, c2, c3], _ =>
  have G : ∀ (i : Nat) (c : Value), i < 4 → ([c0, c1, c2, c3].drop (i * 1)).take 1 = [c] → ∃ n : Int, c = .int .i64 n := by
   intro i c hi he
   have h2 := hf i hi
   rw [he] at h2
   obtain ⟨y, hy⟩ : ∃ y, xs[i]? = some y := ⟨xs[i]'(by omega), List.getElem?_eq_getElem _⟩
   rw [hy] at h2
   obtain ⟨n, e, _, _⟩ := DataW.trod_int Tryz.underlying3 h2
   exact ⟨n, by simpa using e⟩
  obtain ⟨d0, e0⟩ := G 0 c0 (by decide) rfl
  obtain ⟨d1, e1⟩ := G 1 c1 (by decide) rfl
  obtain ⟨d2, e2⟩ := G 2 c2 (by decide) rfl
  obtain ⟨d3, e3⟩ := G 3 c3 (by decide) rfl
  exact ⟨d0, d1, d2, d3, by rw [e0, e1, e2, e3]⟩
set_option maxRecDepth 100000 in
theorem cmp_of {H : Type} {enc : TypeId × Value → H} {W : World} {fuel : Nat} {cs : List Value} {x : DataW H × List MemPlace} (h : DataW.trod enc Tryz.prog W 0 (fun _ => true) true fuel 99 cs = some x) :
  ∃ y : Cmp, cs = [.string y.s, .int .i64 y.wd, .bool y.rb, .int .i64 y.d0, .int .i64 y.d1, .int .i64 y.d2, .int .i64 y.d3] := by
 obtain ⟨xs, n, _, _, hl, hx, hf⟩ := DataW.trod_struct Tryz.underlying99 h
 rw [cellsCmp] at hl
 match cs, hl with
 | [c0, c1, c2, c3, c4, c5, c6], _ =>
  have f0 := hf 0 _ rfl
  have f1 := hf 1 _ rfl
  have f2 := hf 2 _ rfl
  have f3 := hf 3 _ rfl
  obtain ⟨x0, h0⟩ : ∃ x0, xs[0]? = some x0 := ⟨xs[0]'(by rw [hx]; decide), List.getElem?_eq_getElem _⟩
  obtain ⟨x1, h1⟩ : ∃ x1, xs[1]? = some x1 := ⟨xs[1]'(by rw [hx]; decide), List.getElem?_eq_getElem _⟩
  obtain ⟨x2, h2⟩ : ∃ x2, xs[2]? = some x2 := ⟨xs[2]'(by rw [hx]; decide), List.getElem?_eq_getElem _⟩
  obtain ⟨x3, h3⟩ : ∃ x3, xs[3]? = some x3 := ⟨xs[3]'(by rw [hx]; decide), List.getElem?_eq_getElem _⟩
  have g0 : DataW.trod enc Tryz.prog W 0 (fun _ => true) true n 9 [c0] = some x0 := by rw [← h0, ← f0]; rfl
  have g1 : DataW.trod enc Tryz.prog W 0 (fun _ => true) true n 3 [c1] = some x1 := by rw [← h1, ← f1]; rfl
  have g2 : DataW.trod enc Tryz.prog W 0 (fun _ => true) true n 4 [c2] = some x2 := by rw [← h2, ← f2]; rfl
  have g3 : DataW.trod enc Tryz.prog W 0 (fun _ => true) true n 45 [c3, c4, c5, c6] = some x3 := by rw [← h3, ← f3]; rfl
  obtain ⟨t, e0, _, _⟩ := DataW.trod_string Tryz.underlying9 g0
  obtain ⟨k, e1, _, _⟩ := DataW.trod_int Tryz.underlying3 g1
  obtain ⟨b, e2, _⟩ := DataW.trod_bool Tryz.underlying4 g2
  obtain ⟨d0, d1, d2, d3, e3⟩ := arr4_of g3
  simp at e0 e1 e2 e3
  obtain ⟨rfl, rfl, rfl, rfl⟩ := e3
  exact ⟨⟨t, k, b, d0, d1, d2, d3⟩, by rw [e0, e1, e2]⟩
set_option maxRecDepth 100000 in
theorem rsc_of {H : Type} {enc : TypeId × Value → H} {W : World} {fuel : Nat} {cs : List Value} {x : DataW H × List MemPlace} (h : DataW.trod enc Tryz.prog W 0 (fun _ => true) true fuel 101 cs = some x) :
  ∃ y : Rsc, cs = [.string y.s, .int .i64 y.n] := by
 obtain ⟨xs, n, _, _, hl, hx, hf⟩ := DataW.trod_struct Tryz.underlying101 h
 rw [cellsRsc] at hl
 match cs, hl with
 | [c0, c1], _ =>
  have f0 := hf 0 _ rfl
  have f1 := hf 1 _ rfl
  obtain ⟨x0, h0⟩ : ∃ x0, xs[0]? = some x0 := ⟨xs[0]'(by rw [hx]; decide), List.getElem?_eq_getElem _⟩
  obtain ⟨x1, h1⟩ : ∃ x1, xs[1]? = some x1 := ⟨xs[1]'(by rw [hx]; decide), List.getElem?_eq_getElem _⟩
  have g0 : DataW.trod enc Tryz.prog W 0 (fun _ => true) true n 9 [c0] = some x0 := by rw [← h0, ← f0]; rfl
  have g1 : DataW.trod enc Tryz.prog W 0 (fun _ => true) true n 3 [c1] = some x1 := by rw [← h1, ← f1]; rfl
  obtain ⟨t, e0, _, _⟩ := DataW.trod_string Tryz.underlying9 g0
  obtain ⟨k, e1, _, _⟩ := DataW.trod_int Tryz.underlying3 g1
  simp at e0 e1
  exact ⟨⟨t, k⟩, by rw [e0, e1]⟩
set_option maxRecDepth 100000 in
theorem cmprow_of {H : Type} {enc : TypeId × Value → H} {W : World} {fuel : Nat} {cs : List Value} {d : DataW H × List MemPlace} (hf : DataW.trod enc Tryz.prog W 0 (fun _ => true) true fuel 22 cs = some d) :
  ∃ v ts, cs = [v] ∧ CmpRow W v ts := by
 rcases Deep.open_slice Tryz.underlying22 hf with ⟨h1, h2⟩ | ⟨a, len, cap, m, n, D, Pl, h1, _, hl, _, hm, hx, hel⟩
 ·exact ⟨_, [], h1, ⟨none, 0, rfl, Nat.le_refl _, .inl rfl⟩⟩
 ·simp only [if_true] at hm
  subst hm
  rw [cellsCmp] at hel
  haveI : Inhabited Cmp := ⟨⟨⟨#[]⟩, 0, false, 0, 0, 0, 0⟩⟩
  obtain ⟨X, hX⟩ := Deep.choose_lt (α := Cmp) (n := len) (p := fun i q => W.cells? 0 (a.add (i * 7)) 7 = some [.string q.s, .int .i64 q.wd, .bool q.rb, .int .i64 q.d0, .int .i64 q.d1, .int .i64 q.d2, .int .i64 q.d3]) (fun i hi => by
   obtain ⟨cs', hc1, hc2⟩ := hel i (by omega)
   obtain ⟨y, e⟩ := cmp_of hc2
   subst e
   exact ⟨y, hc1⟩)
  refine ⟨_, (List.range len).map X, h1, ⟨some a, m, by simp, by simpa using hl, ?_⟩⟩
  by_cases h0 : len = 0
  ·left; subst h0; rfl
  ·right
   obtain ⟨b, o, spot⟩ := a
   have hspot : spot = none := by
    have h5 := (World.cells?_some (hX 0 (by omega))).2.2 0 (by decide)
    have h6 : W.cell? ((⟨b, o, spot⟩ : Addr)) = some (.string (X 0).s) := by simpa [Addr.add] using h5
    exact World.cell?_spot h6
   subst hspot
   refine ⟨b, o, rfl, fun j x hj => ?_⟩
   have hjl : j < len := by
    have := (List.getElem?_eq_some_iff.1 hj).1
    simpa using this
   have hxe : x = X j := by simpa [hjl] using hj.symm
   subst hxe
   have h5 := (World.cells?_some (hX j hjl)).2.2
   have e0 := h5 0 (by decide)
   have e1 := h5 1 (by decide)
   have e2 := h5 2 (by decide)
   have e3 := h5 3 (by decide)
   have e4 := h5 4 (by decide)
   have e5 := h5 5 (by decide)
   have e6 := h5 6 (by decide)
   rw [Deep.add_add, add_plain3] at e0 e1 e2 e3 e4 e5 e6
   exact ⟨by simpa using e0, by simpa [Nat.add_assoc] using e1, by simpa [Nat.add_assoc] using e2, by simpa [Nat.add_assoc] using e3, by simpa [Nat.add_assoc] using e4, by simpa [Nat.add_assoc] using e5, by simpa [Nat.add_assoc] using e6⟩
set_option maxRecDepth 100000 in
theorem rscrow_of {H : Type} {enc : TypeId × Value → H} {W : World} {fuel : Nat} {cs : List Value} {d : DataW H × List MemPlace} (hf : DataW.trod enc Tryz.prog W 0 (fun _ => true) true fuel 23 cs = some d) :
  ∃ v ts, cs = [v] ∧ RscRow W v ts := by
 rcases Deep.open_slice Tryz.underlying23 hf with ⟨h1, h2⟩ | ⟨a, len, cap, m, n, D, Pl, h1, _, hl, _, hm, hx, hel⟩
 ·exact ⟨_, [], h1, ⟨none, 0, rfl, Nat.le_refl _, .inl rfl⟩⟩
 ·simp only [if_true] at hm
  subst hm
  rw [cellsRsc] at hel
  haveI : Inhabited Rsc := ⟨⟨⟨#[]⟩, 0⟩⟩
  obtain ⟨X, hX⟩ := Deep.choose_lt (α := Rsc) (n := len) (p := fun i q => W.cells? 0 (a.add (i * 2)) 2 = some [.string q.s, .int .i64 q.n]) (fun i hi => by
   obtain ⟨cs', hc1, hc2⟩ := hel i (by omega)
   obtain ⟨y, e⟩ := rsc_of hc2
   subst e
   exact ⟨y, hc1⟩)
  refine ⟨_, (List.range len).map X, h1, ⟨some a, m, by simp, by simpa using hl, ?_⟩⟩
  by_cases h0 : len = 0
  ·left; subst h0; rfl
  ·right
   obtain ⟨b, o, spot⟩ := a
   have hspot : spot = none := by
    have h5 := (World.cells?_some (hX 0 (by omega))).2.2 0 (by decide)
    have h6 : W.cell? ((⟨b, o, spot⟩ : Addr)) = some (.string (X 0).s) := by simpa [Addr.add] using h5
    exact World.cell?_spot h6
   subst hspot
   refine ⟨b, o, rfl, fun j x hj => ?_⟩
   have hjl : j < len := by
    have := (List.getElem?_eq_some_iff.1 hj).1
    simpa using this
   have hxe : x = X j := by simpa [hjl] using hj.symm
   subst hxe
   have h5 := (World.cells?_some (hX j hjl)).2.2
   have e0 := h5 0 (by decide)
   have e1 := h5 1 (by decide)
   rw [Deep.add_add, add_plain3] at e0 e1
   exact ⟨by simpa using e0, by simpa [Nat.add_assoc] using e1⟩
set_option maxRecDepth 100000 in
theorem schema_of {H : Type} {enc : TypeId × Value → H} {W : World} {v : Value} {d : DataW H} {ps : List MemPlace} (h : DataW.Trod enc Tryz.prog W 0 (fun _ => true) true 25 v d ps) (hv : ∃ cs, v = .agg cs) : ∃ va vb cs rs, v = .agg #[va, vb] ∧ CmpRow W va cs ∧ RscRow W vb rs := by
 obtain ⟨fuel, hf⟩ := h
 obtain ⟨arr, rfl⟩ := hv
 obtain ⟨xs, n, _, _, hl, hx, hfi⟩ := DataW.trod_struct Tryz.underlying25 hf
 rw [cellsSch] at hl
 obtain ⟨l⟩ := arr
 simp [Value.cells] at hl hfi
 match l, hl with
 | [c0, c1], _ =>
  have f0 := hfi 0 _ rfl
  have f1 := hfi 1 _ rfl
  obtain ⟨x0, h0⟩ : ∃ x0, xs[0]? = some x0 := ⟨xs[0]'(by rw [hx]; decide), List.getElem?_eq_getElem _⟩
  obtain ⟨x1, h1⟩ : ∃ x1, xs[1]? = some x1 := ⟨xs[1]'(by rw [hx]; decide), List.getElem?_eq_getElem _⟩
  have g0 : DataW.trod enc Tryz.prog W 0 (fun _ => true) true n 22 [c0] = some x0 := by rw [← h0, ← f0]; rfl
  have g1 : DataW.trod enc Tryz.prog W 0 (fun _ => true) true n 23 [c1] = some x1 := by rw [← h1, ← f1]; rfl
  obtain ⟨va, cs, e0, hc⟩ := cmprow_of g0
  obtain ⟨vb, rs, e1, hr⟩ := rscrow_of g1
  simp at e0 e1
  exact ⟨va, vb, cs, rs, by rw [e0, e1], hc, hr⟩
end Sc
end Go.Proofs.YtnlcbheidiigaaaGreatDoor
