/- A part of StoreExact. -/
import Derived.Test.YtnlcbheidiigaaaGreatDoorRsGq
import Derived.Test.YtnlcbheidiigaaaGreatDoorRsGk
namespace Go.Proofs.YtnlcbheidiigaaaGreatDoor
namespace Rs
open Go.RowKit Go.Shelf Go.Maps
open At (St bAl cell_blk blk_seen blk_free)
open YtnlcbheidiigaaaGreatDoor.So (chkL sortP entered)
def SD.spawn (s : SD) (l : List Prt) : (Int × Int × Int) × SD := if chkL s.ws l = 0 then (match s.r.free.getLast? with
 | some i => (((i : Int), ((s.r.gens.getD i 0 : Nat) + 1 : Int), 0), entered { s with r := s.r.took i } i (sortP l))
 | none => ((0, 0, 6), s)) else ((0, 0, (chkL s.ws l : Int)), s)
def twc (l : List Prt) : Bool := !decide (l.Pairwise (fun x y => x.c ≠ y.c))
theorem twc_next {l : List Prt} {k : Nat} {p : Prt} (hp : l[k]? = some p) : twc (l.take (k + 1)) = (twc (l.take k) || decide (0 ≤ ixI (sortP (l.take k)) p.c)) := by
 have e : l.take (k + 1) = l.take k ++ [p] := by rw [List.take_add_one, hp]; rfl
 have hx : 0 ≤ ixI (sortP (l.take k)) p.c ↔ ∃ q ∈ l.take k, q.c = p.c := by
  have q1 : (∃ q ∈ l.take k, q.c = p.c) ↔ ∃ q ∈ sortP (l.take k), (q.c == p.c) = true := by
   constructor
   ·rintro ⟨q, h1, h2⟩; exact ⟨q, (So.sort_perm _).mem_iff.1 h1, by simpa using h2⟩
   ·rintro ⟨q, h1, h2⟩; exact ⟨q, (So.sort_perm _).mem_iff.2 h1, by simpa using h2⟩
  rw [q1, ← List.findIdx_lt_length]
  unfold ixI ix
  split
  ·rename_i h; simp [h]
  ·rename_i h; simp [h]
 unfold twc
 rw [e]
 by_cases h1 : (l.take k).Pairwise (fun x y => x.c ≠ y.c)
 ·by_cases h2 : ∃ q ∈ l.take k, q.c = p.c
  ·obtain ⟨q, h3, h4⟩ := h2
   have h5 := hx.2 ⟨q, h3, h4⟩
   have h6 : ¬ (l.take k ++ [p]).Pairwise (fun x y => x.c ≠ y.c) := fun h7 => (List.pairwise_append.1 h7).2.2 q h3 p (by simp) h4
   rw [decide_eq_false h6, decide_eq_true h5, Bool.or_true]
   rfl
  ·have h5 : ¬ 0 ≤ ixI (sortP (l.take k)) p.c := fun q => h2 (hx.1 q)
   have h6 : (l.take k ++ [p]).Pairwise (fun x y => x.c ≠ y.c) := List.pairwise_append.2 ⟨h1, by simp, fun a ha b hb e => h2 ⟨a, ha, by simp at hb; rw [e, hb]⟩⟩
   rw [decide_eq_true h6, decide_eq_true h1, decide_eq_false h5]
   rfl
 ·have h6 : ¬ (l.take k ++ [p]).Pairwise (fun x y => x.c ≠ y.c) := fun q => h1 (List.pairwise_append.1 q).1
  rw [decide_eq_false h6, decide_eq_false h1]
  rfl
theorem sort_next {l : List Prt} {k : Nat} {p : Prt} (hp : l[k]? = some p) : sortP (l.take (k + 1)) = insP (sortP (l.take k)) p := by
 have e : l.take (k + 1) = l.take k ++ [p] := by rw [List.take_add_one, hp]; rfl
 rw [e, So.sort_snoc]
theorem Sb.no_ent {B : Nat} {w : World} {ub : Nat} {x : SV} {s : SD} (h : Sb B w ub x s) {k : Nat} {c : Array Value} {fr : Nat × Nat} (hk : w.heap[k]? = some (.cells c 43 fr)) : ¬ x.fp ub k := by
 rintro (rfl | hf | ⟨v, hv, e⟩ | e)
 ·rw [h.box] at hk; simp at hk
 ·rcases hf with rfl | rfl | rfl | e
  ·rw [h.roll.box] at hk; simp at hk
  ·rw [h.roll.gens] at hk; simp at hk
  ·rw [h.roll.isb] at hk; simp at hk
  ·obtain ⟨c', fr', e'⟩ := int_blk h.roll.free e
   rw [e'] at hk; simp at hk
 ·obtain ⟨l, hl⟩ := h.row_at hv
  obtain ⟨c', fr', e'⟩ := hl.blk e
  rw [e'] at hk; simp at hk
 ·obtain ⟨c', fr', e'⟩ := msk_blk h.sets e
  rw [e'] at hk; simp at hk
theorem Gs.put_row {B : Nat} {W0 W : World} {ub : Nat} {x x1 : SV} {s1 : SD} (g : Gs B W0 ub x W x1 s1) (hu : ub < W0.heap.size) (hB : B ≤ W0.heap.size) {i : Nat} {v : Value} {l : List Prt} (hi : i < 64) (hv : Prts W0.heap.size W v l) (hl : okL s1.ws l) :
  Gs B W0 ub x (W.setCell ⟨ub, 3 + i, none⟩ v) { x1 with pv := x1.pv.set i v } { s1 with p := s1.p.set i l } := by
 have h := g.sb
 have s1' : St (fun k => k = ub) W (W.setCell ⟨ub, 3 + i, none⟩ v) := St.setCell _ rfl
 have e1 : x1.cells.toArray.setIfInBounds (3 + i) v = (SV.cells { x1 with pv := x1.pv.set i v }).toArray := by
  rw [List.setIfInBounds_toArray]
  congr 1
  rw [show 3 + i = i + 3 by omega]
  show _ :: _ :: _ :: ((x1.pv ++ [x1.sv]).set i v) = _
  rw [List.set_append_left _ _ (by rw [h.n1]; exact hi)]
  rfl
 refine ⟨⟨?_, h.low, h.wd.move (s1'.below (fun k hk => hk ▸ h.low) h.big), h.vb, h.okw, h.roll.kept (st_ro s1') (fun k hk e => (h.apart hk).1 e), ?_, ?_, ?_, ?_, h.sets.kept s1' fun k hk e => h.own.2 (e ▸ hk)⟩, ?_, ?_⟩
 ·rw [← e1]
  exact heap_setCell_same W ub (3 + i) _ 81 v h.box
 ·simp [h.n1]
 ·simp [h.n2]
 ·intro j u q hu' hq
  by_cases e : i = j
  ·subst e
   simp only [List.getElem?_set_self (show i < x1.pv.length by rw [h.n1]; exact hi), Option.some.injEq] at hu'
   simp only [List.getElem?_set_self (show i < s1.p.length by rw [h.n2]; exact hi), Option.some.injEq] at hq
   subst hu' hq
   exact (hv.lower hB).kept s1' fun k hk e => by
    have := (hv.lt k hk).1
    omega
  ·simp only [List.getElem?_set_ne e] at hu' hq
   exact (h.rows j u q hu' hq).kept s1' fun k hk e => h.own.1 u (List.mem_of_getElem? hu') (e ▸ hk)
 ·intro q hq
  rcases List.mem_or_eq_of_mem_set hq with hq | rfl
  ·exact h.okp q hq
  ·exact hl
 ·refine g.st.trans s1' fun k hk e => ?_
  subst e
  exact .inl rfl
 ·rintro k (rfl | hk | ⟨u, hu', hk⟩ | hk)
  ·exact g.new _ (.inl rfl)
  ·exact g.new _ (.inr (.inl hk))
  ·rcases List.mem_or_eq_of_mem_set hu' with hu' | rfl
   ·exact g.new _ (.inr (.inr (.inl ⟨u, hu', hk⟩)))
   ·exact .inr (hv.lt k hk).1
  ·exact g.new _ (.inr (.inr (.inr hk)))
theorem Sb.bound {B : Nat} {w : World} {ub : Nat} {x : SV} {s : SD} (h : Sb B w ub x s) {t : Nat} (ht : ∀ g ∈ s.r.gens, g ≤ t) : Sb B w ub { x with t := t } s :=
 ⟨h.box, h.low, h.wd, h.vb, h.okw, ⟨h.roll.box, h.roll.gens, h.roll.isb, h.roll.free, h.roll.ok, h.roll.small, ht, h.roll.low, h.roll.apart, h.roll.nz⟩, h.n1, h.n2, h.rows, h.okp, h.sets⟩
theorem ret_ent {B : Nat} {W w : World} {ub : Nat} {x x' : SV} {s' : SD} (h : Gs B W ub x w x' s') (hn : ¬ x'.fp ub W.heap.size) (hB : B ≤ W.heap.size) {a0 b0 : Value} (hk : w.heap[W.heap.size]? = some (.cells #[a0, b0] 43 (0, 0))) (a b : Value) :
  Gs B W ub x ((w.setCell ⟨W.heap.size, 0, none⟩ a).setCell ⟨W.heap.size, 1, none⟩ b) x' s' ∧ ((w.setCell ⟨W.heap.size, 0, none⟩ a).setCell ⟨W.heap.size, 1, none⟩ b).cell? ⟨W.heap.size, 0, none⟩ = some a ∧ ((w.setCell ⟨W.heap.size, 0, none⟩ a).setCell ⟨W.heap.size, 1, none⟩ b).cell? ⟨W.heap.size, 1, none⟩ = some b := by
 have k : ((w.setCell ⟨W.heap.size, 0, none⟩ a).setCell ⟨W.heap.size, 1, none⟩ b).heap[W.heap.size]? = some (.cells #[a, b] 43 (0, 0)) := heap_setCell_same _ _ 1 _ 43 b (heap_setCell_same w _ 0 _ 43 a hk)
 exact ⟨h.beside (So.two_st w _ a b) (Nat.le_refl _) hn hB, cell_blk k rfl, cell_blk k rfl⟩
theorem ret_below {W w : World} (hb : Below W.heap.size W w) (a b : Value) : Below W.heap.size W ((w.setCell ⟨W.heap.size, 0, none⟩ a).setCell ⟨W.heap.size, 1, none⟩ b) :=
 hb.trans ((So.two_st w W.heap.size a b).below (B := W.heap.size) (fun k hk => by omega) hb.size)
set_option maxHeartbeats 1600000 in
set_option maxRecDepth 100000 in
theorem spawn_any {B : Nat} {W : World} {ub : Nat} {x : SV} {s : SD} (h : Sb B W ub x s) {v : Value} {l : List Prt} (hv : PRow W v l) (hl : l.length ≤ 90) (hti : ∀ p ∈ l, Co.I64 p.t) (ht : x.t ≤ 1000) (hns : s.sets.length ≤ 900) :
  Calls Tryz.prog 17 #[.pointer (some ⟨ub, 0, none⟩), v] W fun e W' => e = .returned (.tuple #[.agg #[.int .i64 (s.spawn l).1.1, .int .i64 (s.spawn l).1.2.1], .int .i64 (s.spawn l).1.2.2]) ∧ (∃ x', Gs B W ub x W' x' (s.spawn l).2) ∧ ((s.spawn l).1.2.2 ≠ 0 → Below W.heap.size W W') := by
 obtain ⟨b2, k1, k2⟩ := two_blk W #[.int .i64 0, .int .i64 0] #[] 43 47
 obtain ⟨W2, hW2⟩ : ∃ W2, W2 = (W.alloc (.cells #[.int .i64 0, .int .i64 0] 43)).alloc (.cells #[] 47) := ⟨_, rfl⟩
 have P0 : Hid (Prts W.heap.size W2 (.slice (some ⟨W.heap.size + 1, 0, none⟩) 0 0) (sortP (l.take 0))) := by
  have := (World.ownsRow_lit (W.alloc (.cells #[.int .i64 0, .int .i64 0] 43)) #[] 0 (Nat.le_refl _) (Nat.zero_le _) rfl : Prts _ ((W.alloc (.cells #[.int .i64 0, .int .i64 0] 43)).alloc (.cells #[] 47)) _ [])
  rw [World.size_alloc, ← hW2] at this
  exact World.ownsRow.mono this (by omega)
 rw [← hW2] at b2 k1 k2
 have HW2 := hid hW2
 have hli : (l.length : Int) ≤ 90 := by omega
 obtain ⟨va, vc, rfl, -⟩ := id hv
 have H := hid h
 have HV := hid hv
 have B2 := hid b2
 have K1 := hid k1
 have hw16 := h.okw.1
 have HTI := hid hti
 clear h hv b2 k1 k2 hW2 hti
 go_enter Tryz.func17, Tryz.ntmps17
 go_upto_region 2 with fail
 rw [← HW2.out]
 go_wp2_with fail
 go_loopw [6, 7, 8] (fun lv tw i wr => ∃ k : Nat, k ≤ l.length ∧ i = .int .i64 (k : Int) ∧ tw = .bool (twc (l.take k)) ∧ Hid (Prts W.heap.size wr lv (sortP (l.take k))) ∧ Hid (Below W2.heap.size W2 wr) ∧ Hid (∀ p ∈ l.take k, fitP s.ws p = true)) (fun _ _ i _ => l.length - (intOf i).toNat)
 case atStart => exact ⟨0, Nat.zero_le _, rfl, rfl, P0.out, Below.refl _ _, fun p hp => by simp at hp⟩
 case round =>
  obtain ⟨k, hk, rfl, rfl, HL, HB, HF⟩ := hrel
  have BR := hid (B2.out.trans (HB.out.mono B2.out.size))
  clear P0
  by_cases hlt : k < l.length
  ·have hki : (k : Int) < (l.length : Int) := by omega
   obtain ⟨p, hp⟩ := at_lt l k hlt
   obtain ⟨pb, po, rfl, six⟩ := (HV.out.later BR.out).at hp
   obtain ⟨s0, s1, s2, s3, s4, s5⟩ := id six
   have HR := hid (H.out.later BR.out)
   have c0 := HR.out.c0
   have c1 := HR.out.c1
   have FT := hid (fits_any wr.drew x.va x.vb H.out.vb s.ws p (HR.out.later (Below.refl _ wr).drew).wd.row H.out.okw)
   obtain ⟨bf, hbf⟩ : ∃ bf, bf = fitP s.ws p := ⟨_, rfl⟩
   rw [← hbf] at FT
   have HBF := hid hbf
   have SIX := hid six
   have TW := hid (twc_next hp)
   have SN := hid (sort_next hp)
   have HP := hid hp
   have hle2 : (sortP (l.take k)).length ≤ 90 := by rw [← (So.sort_perm (l.take k)).length_eq]; simp; omega
   obtain ⟨ls, hls⟩ : ∃ ls, ls = sortP (l.take k) := ⟨_, rfl⟩
   rw [← hls] at HL TW SN hle2
   obtain ⟨oa, oc, rfl⟩ := HL.out.slice
   generalize twc (l.take k) = tw at *
   clear hbf six hp hls
   go_wp2_with fail
   go_region_held3 (fun W' => W'.cell? ⟨ub, 0, none⟩ = some x.va ∧ W'.cell? ⟨ub, 1, none⟩ = some x.vb ∧ W'.cell? ⟨pb, po + k * 6, none⟩ = some (.int .i64 p.c) ∧ W'.cell? ⟨pb, po + k * 6 + 1, none⟩ = some (.int .i64 p.v0) ∧ W'.cell? ⟨pb, po + k * 6 + 2, none⟩ = some (.int .i64 p.v1) ∧ W'.cell? ⟨pb, po + k * 6 + 3, none⟩ = some (.int .i64 p.v2) ∧ W'.cell? ⟨pb, po + k * 6 + 4, none⟩ = some (.int .i64 p.v3) ∧ W'.cell? ⟨pb, po + k * 6 + 5, none⟩ = some (.int .i64 p.t)) (go_keep) (first | (go_at_call 67; refine FT.out.mono ?_; rintro e w4 ⟨rfl, hb4⟩; have f0 := At.seen (W := wr.drew) hb4 (Nat.le_refl _) c0; have f1 := At.seen (W := wr.drew) hb4 (Nat.le_refl _) c1; have t0 := At.seen (W := wr.drew) hb4 (Nat.le_refl _) s0; have t1 := At.seen (W := wr.drew) hb4 (Nat.le_refl _) s1; have t2 := At.seen (W := wr.drew) hb4 (Nat.le_refl _) s2; have t3 := At.seen (W := wr.drew) hb4 (Nat.le_refl _) s3; have t4 := At.seen (W := wr.drew) hb4 (Nat.le_refl _) s4; have t5 := At.seen (W := wr.drew) hb4 (Nat.le_refl _) s5))
   have b4 := (Below.refl _ wr).drew.trans hb4
   have BQ := hid (BR.out.trans (b4.mono BR.out.size))
   have HB4 := hid (HB.out.trans (b4.mono HB.out.size))
   have HL4 := hid (HL.out.later b4)
   clear hb4 b4 FT f0 f1 c0 c1 s0 s1 s2 s3 s4 s5 HB HL BR HR
   cases bf with
   | false =>
    have K4 := blk_seen HB4.out (Nat.le_refl _) K1.out
    have ES : Hid (s.spawn l = ((0, 0, 1), s)) := by
     show _ = _
     unfold SD.spawn
     rw [So.chk_unfit (List.mem_of_getElem? HP.out) HBF.out.symm]
     simp
    have BF := hid (ret_below BQ.out (.int .i64 0) (.int .i64 0))
    obtain ⟨RE, g0, g1⟩ := ret_ent (Gs.stay H.out BQ.out) (fun e => by have := (H.out.lt _ e).2; omega) H.out.big K4 (.int .i64 0) (.int .i64 0)
    have fz := fun j => blk_free K4 j
    have z0 := cell_blk K4 (j := 0) rfl
    have z1 := cell_blk K4 (j := 1) rfl
    have RH := hid RE
    clear t0 t1 t2 t3 t4 t5 RE
    go_wp2_with fail
    rw [ES.out]
    exact bodyPost_ret (v := .tuple #[.agg #[.int .i64 0, .int .i64 0], .int .i64 1]) (by simp [results, Tryz.results17, go_sem, g0, g1]) rfl ⟨rfl, ⟨x, RH.out⟩, fun _ => BF.out⟩
   | true =>
    have HF2 : Hid (∀ q ∈ l.take (k + 1), fitP s.ws q = true) := fun q hq => by
     rw [List.take_add_one, HP.out, List.mem_append] at hq
     rcases hq with hq | hq
     ·exact HF.out q hq
     ·simp at hq; rw [hq]; exact HBF.out.symm
    have AT := hid (at_any w4 _ ls p.c HL4.out.row (by omega))
    have WI := hid (with_any w4 _ ls p HL4.out.row (by omega))
    have FIN : Hid (∀ w5 v5, Prts w4.heap.size w5 v5 (insP ls p) → Below w4.heap.size w4 w5 → Hid (Prts W.heap.size w5 v5 (sortP (l.take (k + 1)))) ∧ Hid (Below W2.heap.size W2 w5)) := fun w5 v5 q1 q2 => ⟨by rw [SN.out]; exact q1.lower BQ.out.size, HB4.out.trans (q2.mono HB4.out.size)⟩
    clear HF SN HP HBF HL4 HB4
    generalize ixI ls p.c = xi at *
    cases tw with
    | true =>
     go_wp2_with fail
     refine WI.out.mono ?_
     rintro e w5 ⟨v5, rfl, q1, q2⟩
     have F := FIN.out w5 v5 q1 q2
     clear q1 q2 FIN WI AT
     go_wp2_with fail
     exact ⟨⟨k + 1, by omega, by go_num, by rw [TW.out]; rfl, F.1.out, F.2.out, HF2.out⟩, by simp [intOf]; omega⟩
    | false =>
     go_wp2_with fail
     refine AT.out.mono ?_
     rintro e wq ⟨rfl, rfl⟩
     go_wp2_with fail
     refine WI.out.mono ?_
     rintro e w5 ⟨v5, rfl, q1, q2⟩
     have F := FIN.out w5 v5 q1 q2
     clear q1 q2 FIN WI AT
     go_wp2_with fail
     exact ⟨⟨k + 1, by omega, by go_num, by rw [TW.out]; simp, F.1.out, F.2.out, HF2.out⟩, by simp [intOf]; omega⟩
  ·have hki : ¬ ((k : Int) < (l.length : Int)) := by omega
   have e1 : l.take k = l := by rw [show k = l.length by omega]; exact List.take_length
   rw [e1] at HL HF ⊢
   have ALL : l.all (fitP s.ws) = true := List.all_eq_true.2 HF.out
   obtain ⟨oa, oc, rfl⟩ := HL.out.slice
   have HR := hid (H.out.later BR.out)
   have K4 := hid (blk_seen HB.out (Nat.le_refl _) K1.out)
   cases htw : twc l with
   | true =>
    have ES : Hid (s.spawn l = ((0, 0, 9), s)) := by
     show _ = _
     have c9 : chkL s.ws l = 9 := by
      unfold chkL
      rw [if_pos ALL, if_neg (by unfold twc at htw; simpa using htw)]
     unfold SD.spawn
     rw [c9]
     simp
    have BF := hid (ret_below BR.out (.int .i64 0) (.int .i64 0))
    obtain ⟨RE, g0, g1⟩ := ret_ent (Gs.stay H.out BR.out) (fun e => by have := (H.out.lt _ e).2; omega) H.out.big K4.out (.int .i64 0) (.int .i64 0)
    have fz := fun j => blk_free K4.out j
    have z0 := cell_blk K4.out (j := 0) rfl
    have z1 := cell_blk K4.out (j := 1) rfl
    have RH := hid RE
    clear RE
    go_wp2_with fail
    rw [ES.out]
    exact bodyPost_ret (v := .tuple #[.agg #[.int .i64 0, .int .i64 0], .int .i64 9]) (by simp [results, Tryz.results17, go_sem, g0, g1]) rfl ⟨rfl, ⟨x, RH.out⟩, fun _ => BF.out⟩
   | false =>
    have C0 : Hid (chkL s.ws l = 0) := by
     show _ = _
     unfold chkL
     rw [if_pos ALL, if_pos (by unfold twc at htw; simpa using htw)]
    have c2 := HR.out.c2
    clear htw ALL HF
    rcases List.eq_nil_or_concat s.r.free with hf | ⟨f, i, hf⟩
    ·have ES : Hid (s.spawn l = ((0, 0, 6), s)) := by
      show _ = _
      unfold SD.spawn
      rw [if_pos C0.out, hf]
      rfl
     have TK := hid (Ro.rtake_full HR.out.roll hf)
     go_wp2_with fail
     refine TK.out.mono ?_
     rintro e w3 ⟨rfl, hb3⟩
     obtain ⟨w4, hw4⟩ : ∃ w4, w4 = w3.alloc (.cells #[.int .i64 0, .int .i64 0] 43) := ⟨_, rfl⟩
     have b34 : Below w3.heap.size w3 w4 := by rw [hw4]; exact bAl _ _
     have b4 := hb3.trans (b34.mono hb3.size)
     have BQ := BR.out.trans (b4.mono BR.out.size)
     have k4 := blk_seen b4 (Nat.le_refl _) K4.out
     have k5 : w4.heap[w3.heap.size]? = some (.cells #[.int .i64 0, .int .i64 0] 43 (0, 0)) := by rw [hw4]; exact heap_alloc_new w3 _
     have HW4 := hid hw4
     have BF := hid (ret_below BQ (.int .i64 0) (.int .i64 0))
     obtain ⟨RE, g0, g1⟩ := ret_ent (Gs.stay H.out BQ) (fun e => by have := (H.out.lt _ e).2; omega) H.out.big k4 (.int .i64 0) (.int .i64 0)
     have fz := fun j => blk_free k4 j
     have z0 := cell_blk k4 (j := 0) rfl
     have z1 := cell_blk k4 (j := 1) rfl
     have y0 := cell_blk k5 (j := 0) rfl
     have y1 := cell_blk k5 (j := 1) rfl
     have RH := hid RE
     clear RE hb3 b34 b4 BQ k4 k5 hw4 TK c2 hf
     go_upto_region 13 with fail
     rw [← HW4.out]
     go_wp2_with fail
     rw [ES.out]
     exact bodyPost_ret (v := .tuple #[.agg #[.int .i64 0, .int .i64 0], .int .i64 6]) (by simp [results, Tryz.results17, go_sem, g0, g1]) rfl ⟨rfl, ⟨x, RH.out⟩, fun _ => BF.out⟩
    ·rw [List.concat_eq_append] at hf
     have hfl : s.r.free.getLast? = some i := by rw [hf]; simp
     have hi64 : i < 64 := by
      have := H.out.roll.small
      have : i < s.r.gens.length := H.out.roll.ok.2 i (by rw [hf]; simp)
      omega
     have hii : (i : Int) < 64 := by omega
     have ES : Hid (s.spawn l = (((i : Int), ((s.r.gens.getD i 0 : Nat) + 1 : Int), 0), entered { s with r := s.r.took i } i (sortP l))) := by
      show _ = _
      unfold SD.spawn
      rw [if_pos C0.out, hfl]
     have TK := hid (Ro.rtake_some HR.out.roll hf ht)
     obtain ⟨gg, hgg⟩ : ∃ gg : Int, gg = ((s.r.gens.getD i 0 : Nat) + 1 : Int) := ⟨_, rfl⟩
     rw [← hgg] at TK ES
     have OKR := hid (So.sort_ok C0.out HTI.out).1
     go_wp2_with fail
     refine TK.out.mono ?_
     rintro e w3 ⟨rfl, fv', q1, q2, q3⟩
     have G3 := hid ((Gs.stay H.out BR.out).then (HR.out.turn_roll q1 (ro_st q3) fun k hk => .inl (q2 ▸ hk)))
     have kk := (ro_st q3).at K4.out fun e => HR.out.no_ent K4.out (.inr (.inl e))
     have pp := HL.out.kept (ro_st q3) fun k hk e => by have := (World.ownsRow.lt HL.out k hk).1; have := (H.out.roll.lt k e).2; omega
     obtain ⟨w4, hw4⟩ : ∃ w4, w4 = w3.alloc (.cells #[.int .i64 (i : Int), .int .i64 gg] 43) := ⟨_, rfl⟩
     have b34 : Below w3.heap.size w3 w4 := by rw [hw4]; exact bAl _ _
     have k4 := hid (blk_seen b34 (Nat.le_refl _) kk)
     have k5 : Hid (w4.heap[w3.heap.size]? = some (.cells #[.int .i64 (i : Int), .int .i64 gg] 43 (0, 0))) := by show _ = _; rw [hw4]; exact heap_alloc_new w3 _
     have G4 := hid (G3.out.then (Gs.stay G3.out.sb b34))
     have P4 := hid (pp.later b34)
     have HW4 := hid hw4
     have huW := (H.out.lt ub (.inl rfl)).2
     have hWl : W.heap.size ≤ w3.heap.size := G3.out.st.size
     have n1 : ¬ (w3.heap.size = ub) := by omega
     have n2 : ¬ (ub = w3.heap.size) := by omega
     obtain ⟨v', hv', cv, -, -⟩ := G4.out.sb.place hi64
     have frz := blk_free G4.out.sb.box (3 + i)
     have y0 := cell_blk k5.out (j := 0) rfl
     generalize hls : sortP l = ls at *
     clear q1 q2 q3 kk pp hw4 b34 TK c2 hf hfl G3 HL HR K4 HB BR hv' hgg HTI
     go_upto_region 13 with fail
     rw [← HW4.out]
     clear HW4
     go_wp2_with fail
     go_region_held3 (fun W' => W'.cell? ⟨w3.heap.size, 0, none⟩ = some (.int .i64 (i : Int))) (go_keep) (fail)
     go_upto_region 16 with fail
     obtain ⟨w5, hw5⟩ : ∃ w5, w5 = (w4.setCell ⟨ub, 3 + i, none⟩ (.slice oa ls.length oc)).drew := ⟨_, rfl⟩
     have g5 := G4.out.put_row huW H.out.big hi64 P4.out OKR.out
     have s5 : St (fun k => k = ub) w4 (w4.setCell ⟨ub, 3 + i, none⟩ (.slice oa ls.length oc)) := St.setCell _ rfl
     have bd : Below (w4.setCell ⟨ub, 3 + i, none⟩ (.slice oa ls.length oc)).heap.size (w4.setCell ⟨ub, 3 + i, none⟩ (.slice oa ls.length oc)) w5 := by rw [hw5]; exact (Below.refl _ _).drew
     have P5 := hid ((P4.out.kept s5 fun k hk e => by have := (World.ownsRow.lt P4.out k hk).1; omega).later bd)
     have G5 := hid (g5.then (Gs.stay g5.sb bd))
     have K5 := hid (blk_seen bd (Nat.le_refl _) (s5.at k5.out n1))
     have R5 := hid (blk_seen bd (Nat.le_refl _) (s5.at k4.out (by omega)))
     have hokl : okL s.ws ls := OKR.out
     have hle := okL_few hokl hw16
     have MK := hid (mask_any w5 _ ls P5.out.row (by omega) (okL_okC hokl hw16))
     have NT := hid (note_any G5.out.sb (mskP ls) (by show s.sets.length ≤ 1000; omega))
     rw [← hw5]
     clear g5 s5 bd hw5 P4 G4 k4 k5 cv frz y0 hokl
     go_wp2_with fail
     refine MK.out.mono ?_
     rintro e wq ⟨rfl, rfl⟩
     go_wp2_with fail
     refine NT.out.mono ?_
     rintro e w6 ⟨rfl, x6, g6⟩
     have G6 := hid (G5.out.then g6)
     have k6 := g6.st.at K5.out (G5.out.sb.no_ent K5.out)
     have r6 := g6.st.at R5.out (G5.out.sb.no_ent R5.out)
     obtain ⟨RE, g0, g1⟩ := ret_ent G6.out (G6.out.sb.no_ent r6) H.out.big r6 (.int .i64 (i : Int)) (.int .i64 gg)
     have fz := fun j => blk_free r6 j
     have z0 := cell_blk r6 (j := 0) rfl
     have z1 := cell_blk r6 (j := 1) rfl
     have y0 := cell_blk k6 (j := 0) rfl
     have y1 := cell_blk k6 (j := 1) rfl
     have RH := hid RE
     clear RE g6 MK NT
     go_wp2_with fail
     rw [ES.out]
     exact bodyPost_ret (v := .tuple #[.agg #[.int .i64 (i : Int), .int .i64 gg], .int .i64 0]) (by simp [results, Tryz.results17, go_sem, g0, g1]) rfl ⟨rfl, ⟨x6, RH.out⟩, fun q => absurd rfl q⟩
end Rs
end Go.Proofs.YtnlcbheidiigaaaGreatDoor
