/- The document's journal: Note. -/
import Derived.Test.YtnbgjbdbbmpoaaaDoorJoRf
namespace Go.Proofs.YtnbgjbdbbmpoaaaDoor.Jo
open Go.RowKit Go.Shelf Go.Maps
/-- Whether the last frame holds what makes an entry say nothing new. -/
def knownR (ms : List Int) (es : List En) (u : Ue) : Bool := es.any fun e => e.m == lastM ms && oldB e.u u
/-- What Note does. -/
def noteR (most : Nat) (ms : List Int) (es : List En) (u : Ue) : Int × List En := if knownR ms es u = true then (0, es) else if most ≤ es.length then (6, es) else (0, es ++ [⟨lastM ms, u⟩])
/-- Ready for a copy: an empty row, and the row that is copied. -/
structure Rdy (W0 : World) (B0 B g : Nat) (sv : Value) (es : List En) (wc : World) : Prop where
  d : wc.ownsRow B0 79 12 (.slice (some ⟨g, 0, none⟩) 0 0) 0 []
  s : wc.ownsRow B 79 12 sv es.length (eCells es)
  z : B0 ≤ wc.heap.size
  b : Below W0.heap.size W0 wc
  l : W0.heap.size ≤ B0
/-- A row of its own. -/
structure Rd2 (W0 : World) (B0 : Nat) (sv : Value) (es : List En) (wc : World) : Prop where
  s : wc.ownsRow B0 79 12 sv es.length (eCells es)
  z : B0 ≤ wc.heap.size
  b : Below W0.heap.size W0 wc
  l : W0.heap.size ≤ B0
theorem Rd2.later {W0 : World} {B0 : Nat} {sv : Value} {es : List En} {wc w : World} (h : Rd2 W0 B0 sv es wc) (hb : Below wc.heap.size wc w) : Rd2 W0 B0 sv es w :=
  ⟨own_st h.s (St.of_below (S := fun _ => False) hb) (fun _ _ q => q), Nat.le_trans h.z hb.size, h.b.trans (hb.mono h.b.size), h.l⟩
theorem step_cp {ops : Array Oper} {o : Oper} {a : Act} {K : Act → World → Prop} {Q : Exit → Act → World → Prop} {E : Prop} (hgd : o.guard = none) (s x : Operand)
    (ho : o.op = .call { callee := .builtin .append, args := #[s, x], argTypes := #[54, 54] }) {W0 : World} {B0 B g : Nat} {wc : World} {sv : Value} {es : List En} (hr : Rdy W0 B0 B g sv es wc) (h1 : ∀ u ∈ eCells es, u.oneCell' = true) (hn : es.length ≤ 100000)
    (hs : a.eval s = .slice (some ⟨g, 0, none⟩) 0 0) (hx : a.eval x = sv)
    (h : ∀ a1 c1 w', Hid (Rd2 W0 B0 (.slice a1 es.length c1) es w') → K (a.put o.dst (.slice a1 es.length c1)) w') :
    if Region.wanted o (yielded ops a.tmps) = true then Oper.wp Tryd.prog o a wc K Q else E := by
  obtain ⟨i0, hi, hz0, hz1, hz2⟩ := info_parts infoEn
  have hw : Region.wanted o (yielded ops a.tmps) = true := by simp [Region.wanted, hgd]
  have key : ∃ v' w', (Builtin.append_ #[54, 54] o.type #[.slice (some ⟨g, 0, none⟩) 0 0, sv]).run Tryd.prog wc = .ok v' w' ∧ w'.ownsRow B0 79 12 v' es.length (eCells es) ∧ St (fun k => k = g) wc w' := by
    rcases own_src hr.s with ⟨rfl, q⟩ | ⟨g2, cap, rfl, hcs⟩
    · obtain rfl : es = [] := List.length_eq_zero_iff.1 q
      exact ⟨_, _, run_append_nothing B0 _ _ _ i0 12 Tryd.underlying54 hi _ 0 0 [] hr.d, hr.d, St.refl _ _⟩
    · obtain ⟨v', w', hrn, h8, h9, -, -⟩ := run_append_own_at (P := Tryd.prog) wc B0 54 o.type 79 i0 _ 12 112 Tryd.underlying54 hi hz0 hz1 hz2 rfl (by decide) _ 0 [] hr.d ⟨g2, 0, none⟩ es.length cap (eCells es) hr.s.1 (fun j u hu => by
        have : (⟨g2, 0, none⟩ : Addr).add j = ⟨g2, j, none⟩ := by rw [Addr.add_lit, Nat.zero_add]
        rw [this]
        exact hcs j u hu) h1 (by unfold maxLen; omega) (by omega) hr.z
      rw [Nat.zero_add, List.nil_append] at h8
      exact ⟨v', w', hrn, h8, St.of_grown h9 fun k hk => by simpa [Value.ownBlock] using hk.symm⟩
  obtain ⟨v', w', hrun, h2, h3⟩ := key
  obtain ⟨a1, c1, rfl⟩ := own_slice h2
  have hg := (hr.d.lt g rfl).1
  rw [if_pos hw]
  unfold Oper.wp execOp
  simp only [ho, resolve, invoke, builtin, Sem.run_bind, Sem.run_pure, Result.andThen_ok, List.map_toArray, List.map_cons, List.map_nil, hs, hx, hrun]
  exact h a1 c1 w' ⟨h2, Nat.le_trans hr.z h3.size, hr.b.trans (h3.below (fun k q => by have := hr.l; omega) hr.b.size), hr.l⟩
theorem step_en {ops : Array Oper} {o : Oper} {a : Act} {K : Act → World → Prop} {Q : Exit → Act → World → Prop} {E : Prop} (hgd : o.guard = none) (s x : Operand)
    (ho : o.op = .call { callee := .builtin .append, args := #[s, x], argTypes := #[54, 54] }) {W0 : World} {B0 : Nat} {w8 : World} {v : Value} {es : List En} {e : En} (hr : Rd2 W0 B0 v es w8) (he : Sl e.u) (hn : es.length ≤ 100000)
    (hs : a.eval s = v) (hx : a.eval x = .slice (some ⟨w8.heap.size, 0, none⟩) 1 1)
    (h : ∀ g' cap w2, Hid (w2.ownsRow B0 79 12 (.slice (some ⟨g', 0, none⟩) (es.length + 1) cap) (es.length + 1) (eCells (es ++ [e]))) → Hid (Below W0.heap.size W0 w2) → K (a.put o.dst (.slice (some ⟨g', 0, none⟩) (es.length + 1) cap)) w2) :
    if Region.wanted o (yielded ops a.tmps) = true then Oper.wp Tryd.prog o a (w8.alloc (.cells e.arr 79)) K Q else E := by
  obtain ⟨i0, hi, hz0, hz1, hz2⟩ := info_parts infoEn
  have hb := bAl w8 (.cells e.arr 79)
  have hr2 := hr.later hb
  refine step_append_lies _ hgd s x 54 ho B0 79 i0 _ 12 112 Tryd.underlying54 hi hz0 hz1 hz2 rfl (by decide) v es.length (eCells es) hs hr2.s ⟨w8.heap.size, 0, none⟩ 1 1 e.arr.toList hx rfl (fun j u' hu => by
    rw [add_at]
    exact cell_blk (heap_alloc_new w8 _) (by simpa using hu)) (En.one he) (by decide) (by unfold maxLen; omega) (by omega) hr2.z _ rfl ?_
  intro g' cap w2 ow hg hat hlt
  refine h _ _ w2 ?_ ?_
  · show World.ownsRow _ _ _ _ _ _ _
    rw [eCells_snoc]
    exact ow
  · exact hr2.b.trans ((St.of_grown (S := fun x => v.ownBlock = some x) hg fun k e => e).below (fun k q => by have := (hr2.s.lt k q).1; have := hr2.l; omega) hr2.b.size)
section
variable {B : Nat} {W W' : World} {ub : Nat} {mv lv : Value} {most : Nat} {ms : List Int} {es : List En}
set_option maxHeartbeats 800000 in
theorem rlast_q (h : Rj B W ub mv lv most ms es) (hl : ms.length ≤ 100000) :
    Calls Tryd.prog 32 #[.pointer (some ⟨ub, 0, none⟩)] W fun e W' => e = .returned (.int .i64 (lastM ms)) ∧ ∃ m, W' = W.drewN m := by
  have c1 := h.c1
  by_cases h0 : ms = []
  · subst h0
    have R : Hid (lastM [] = -1) := rfl
    obtain ⟨a, c, rfl⟩ := h.marks.slice
    clear h
    go_enter Tryd.func32, Tryd.ntmps32
    go_wp2_with fail
    go_ret
    exact ⟨by rw [R.out]; rfl, 0, rfl⟩
  · obtain ⟨l, s, rfl⟩ : ∃ l s, ms = l ++ [s] := ⟨ms.dropLast, ms.getLast h0, (List.dropLast_concat_getLast h0).symm⟩
    have R : Hid (lastM (l ++ [s]) = s) := by show _ = _; simp [lastM]
    obtain ⟨a, c, rfl⟩ := h.marks.slice
    obtain ⟨g, rfl, d0, -⟩ := h.marks.at (j := l.length) (x := s) (by simp)
    have hl1 : (l ++ [s]).length = l.length + 1 := by simp
    rw [hl1] at c1 hl
    have hli : (l.length : Int) ≤ 100000 := by omega
    have e1 : ((l.length + 1 : Nat) : Int) - 1 = (l.length : Int) := by omega
    have hne : ¬ ((l.length : Int) + 1 = 0) := by omega
    have hnb : (((l.length : Int) + 1) == 0) = false := beq_eq_false_iff_ne.2 hne
    clear h hl1 h0
    go_enter Tryd.func32, Tryd.ntmps32
    go_wp2_with fail
    go_quiet (fail)
    go_wp2_with fail
    go_ret
    exact ⟨by rw [R.out]; rfl, _, rfl⟩
set_option maxHeartbeats 1600000 in
theorem rnote_kind (ub : Nat) (u : Ue) (hu : Sl u) (hk : u.k < 1 ∨ 9 < u.k) (W : World) :
    Calls Tryd.prog 15 #[.pointer (some ⟨ub, 0, none⟩), .agg #[.int .i64 u.k, .int .i64 u.id, .int .i64 u.p.c, .int .i64 u.p.v0, .int .i64 u.p.v1, .int .i64 u.p.v2, .int .i64 u.p.v3, .int .i64 u.p.t, u.pv, .int .i64 u.n, .int .i64 u.o]] W fun e W' => e = .returned (.int .i64 1) ∧ Below W.heap.size W W' := by
  obtain ⟨ap, np, cp, hu⟩ := hu
  obtain ⟨uk, uid, ⟨uc, u0, u1, u2, u3, ut⟩, upv, ups, un, uo⟩ := u
  simp only at hk hu ⊢
  subst hu
  by_cases h0 : uk < 1
  · clear hk
    go_enter Tryd.func15, Tryd.ntmps15
    go_wp2_with fail
    go_ret
    exact ⟨rfl, bAl _ _⟩
  · have h1 : 9 < uk := by omega
    clear hk
    go_enter Tryd.func15, Tryd.ntmps15
    go_wp2_with fail
    go_ret
    exact ⟨rfl, bAl _ _⟩
set_option maxHeartbeats 1600000 in
theorem rnote_state (h : Rj B W ub mv lv most [] es) (u : Ue) (hu : Sl u) (h0 : 1 ≤ u.k) (h9 : u.k ≤ 9) :
    Calls Tryd.prog 15 #[.pointer (some ⟨ub, 0, none⟩), .agg #[.int .i64 u.k, .int .i64 u.id, .int .i64 u.p.c, .int .i64 u.p.v0, .int .i64 u.p.v1, .int .i64 u.p.v2, .int .i64 u.p.v3, .int .i64 u.p.t, u.pv, .int .i64 u.n, .int .i64 u.o]] W fun e W' => e = .returned (.int .i64 8) ∧ Below W.heap.size W W' := by
  obtain ⟨ap, np, cp, hu⟩ := hu
  obtain ⟨uk, uid, ⟨uc, u0, u1, u2, u3, ut⟩, upv, ups, un, uo⟩ := u
  simp only at h0 h9 hu ⊢
  subst hu
  have a1 : ¬ uk < 1 := by omega
  have a2 : ¬ 9 < uk := by omega
  have b0 := bAl W (.cells #[.int .i64 uk, .int .i64 uid, .int .i64 uc, .int .i64 u0, .int .i64 u1, .int .i64 u2, .int .i64 u3, .int .i64 ut, .slice ap np cp, .int .i64 un, .int .i64 uo] 38)
  have LA : Hid (∀ W', Below W.heap.size W W' → Calls Tryd.prog 32 #[.pointer (some ⟨ub, 0, none⟩)] W' fun e w => e = .returned (.int .i64 (-1)) ∧ Below W.heap.size W w) := fun W' hb => (rlast_any (h.later hb) (by simp)).mono fun _ _ q => ⟨q.1, hb.trans (q.2.mono hb.size)⟩
  have B0 := hid b0
  clear h b0
  go_enter Tryd.func15, Tryd.ntmps15
  go_wp2_with fail
  refine (LA.out _ B0.out).mono ?_
  rintro e w1 ⟨rfl, b1⟩
  have B1 := hid b1
  clear LA b1
  go_wp2_with fail
  go_ret
  exact ⟨rfl, B1.out⟩
theorem take_known (ms : List Int) (es : List En) (u : Ue) {k : Nat} {e : En} (h : es[k]? = some e) : knownR ms (es.take k) u = false → knownR ms (es.take (k + 1)) u = (e.m == lastM ms && oldB e.u u) := by
  intro q
  unfold knownR at q ⊢
  rw [List.take_add_one, h, List.any_append, q]
  simp
set_option maxHeartbeats 6400000 in
set_option maxRecDepth 100000 in
theorem rnote_any (h : Rj B W ub mv lv most ms es) (hB : B ≤ W.heap.size) (hl : ms.length ≤ 10000) (he : es.length ≤ 10000) (hmost : most ≤ 65536) (u : Ue) (hu : Sl u) (h0 : 1 ≤ u.k) (h9 : u.k ≤ 9) (hlast : 0 ≤ lastM ms) :
    Calls Tryd.prog 15 #[.pointer (some ⟨ub, 0, none⟩), .agg #[.int .i64 u.k, .int .i64 u.id, .int .i64 u.p.c, .int .i64 u.p.v0, .int .i64 u.p.v1, .int .i64 u.p.v2, .int .i64 u.p.v3, .int .i64 u.p.t, u.pv, .int .i64 u.n, .int .i64 u.o]] W fun e W' => e = .returned (.int .i64 (noteR most ms es u).1) ∧ Rw B ub most ms (noteR most ms es u).2 W' ∧ St (fun k => k = ub) W W' := by
  have OL : Hid (∀ (x : Ue) (hx : Sl x) (W' : World), Calls Tryd.prog 35 #[.agg #[.int .i64 x.k, .int .i64 x.id, .int .i64 x.p.c, .int .i64 x.p.v0, .int .i64 x.p.v1, .int .i64 x.p.v2, .int .i64 x.p.v3, .int .i64 x.p.t, x.pv, .int .i64 x.n, .int .i64 x.o], .agg #[.int .i64 u.k, .int .i64 u.id, .int .i64 u.p.c, .int .i64 u.p.v0, .int .i64 u.p.v1, .int .i64 u.p.v2, .int .i64 u.p.v3, .int .i64 u.p.t, u.pv, .int .i64 u.n, .int .i64 u.o]] W' fun e w => e = .returned (.bool (oldB x u)) ∧ Below W'.heap.size W' w) := fun x hx W' => old_any x u hx hu h0 h9 W'
  have TK := hid fun k e => take_known ms es u (k := k) (e := e)
  obtain ⟨NR, hNR⟩ : ∃ NR, noteR most ms es u = NR := ⟨_, rfl⟩
  have NR1 : Hid (knownR ms es u = true → NR = (0, es)) := fun q => by rw [← hNR]; unfold noteR; rw [if_pos q]
  have NR2 : Hid (knownR ms es u = false → most ≤ es.length → NR = (6, es)) := fun q q2 => by rw [← hNR]; unfold noteR; rw [if_neg (by rw [q]; decide), if_pos q2]
  have NR3 : Hid (knownR ms es u = false → ¬ most ≤ es.length → NR = (0, es ++ [⟨lastM ms, u⟩])) := fun q q2 => by rw [← hNR]; unfold noteR; rw [if_neg (by rw [q]; decide), if_neg q2]
  rw [hNR]
  clear hNR
  obtain ⟨lm, hlm⟩ : ∃ lm, lastM ms = lm := ⟨_, rfl⟩
  obtain ⟨kf, hkf⟩ : ∃ kf : Nat → Bool, kf = fun k => knownR ms (es.take k) u := ⟨_, rfl⟩
  have KF0 : Hid (kf 0 = false) := by rw [hkf]; rfl
  have KFN : Hid (kf es.length = knownR ms es u) := by rw [hkf]; show knownR ms (es.take es.length) u = _; rw [List.take_length]
  have KFS : Hid (∀ k e, es[k]? = some e → kf k = false → kf (k + 1) = (e.m == lm && oldB e.u u)) := fun k e q1 q2 => by
    rw [hkf] at q2 ⊢
    rw [← hlm]
    exact TK.out k e q1 q2
  have KFT : Hid (∀ k, k ≤ es.length → kf k = true → knownR ms es u = true) := fun k hk q => by
    rw [hkf] at q
    have q : knownR ms (es.take k) u = true := q
    unfold knownR at q ⊢
    rw [List.any_eq_true] at q ⊢
    obtain ⟨e, he, q⟩ := q
    exact ⟨e, List.mem_of_mem_take he, q⟩
  clear hkf TK
  rw [hlm] at NR3 hlast
  have SU := hid hu
  obtain ⟨ap, np, cp, hu⟩ := hu
  obtain ⟨uk, uid, ⟨uc, u0, u1, u2, u3, ut⟩, upv, ups, un, uo⟩ := u
  simp only at h0 h9 hu OL ⊢
  subst hu
  have a1 : ¬ uk < 1 := by omega
  have a2 : ¬ 9 < uk := by omega
  have a3 : ¬ lm < 0 := by omega
  obtain ⟨W0, hW0⟩ : ∃ W0, W0 = W.alloc (.cells #[.int .i64 uk, .int .i64 uid, .int .i64 uc, .int .i64 u0, .int .i64 u1, .int .i64 u2, .int .i64 u3, .int .i64 ut, .slice ap np cp, .int .i64 un, .int .i64 uo] 38) := ⟨_, rfl⟩
  have b0 : Below W.heap.size W W0 := by rw [hW0]; exact bAl _ _
  have k0 : W0.heap[W.heap.size]? = some (.cells #[.int .i64 uk, .int .i64 uid, .int .i64 uc, .int .i64 u0, .int .i64 u1, .int .i64 u2, .int .i64 u3, .int .i64 ut, .slice ap np cp, .int .i64 un, .int .i64 uo] 38 (0, 0)) := by rw [hW0]; exact heap_alloc_new W _
  have K0 := hid k0
  have B0 := hid b0
  have HW0 := hid hW0
  have H0 := hid (h.later b0)
  have HB := hid hB
  have LQ : Hid (∀ W', Below W0.heap.size W0 W' → Calls Tryd.prog 32 #[.pointer (some ⟨ub, 0, none⟩)] W' fun e w => e = .returned (.int .i64 lm) ∧ ∃ m, w = W'.drewN m) := fun W' hb => by
    have := rlast_q (H0.out.later hb) (by omega)
    rw [hlm] at this
    exact this
  have HLE := hid he
  obtain ⟨al, cl, rfl⟩ := h.ents.slice
  have hei : (es.length : Int) ≤ 10000 := by omega
  have hmi : (most : Int) ≤ 65536 := by omega
  have y0 := cell_blk (j := 0) k0 rfl
  clear h b0 k0 hW0 hB hl he hlast
  go_enter Tryd.func15, Tryd.ntmps15
  go_upto_region 1 with fail
  rw [← HW0.out]
  clear HW0
  go_wp2_with fail
  refine (LQ.out _ (Below.refl _ _)).mono ?_
  rintro e w1 ⟨rfl, m1, hw1⟩
  have b1 : Below W0.heap.size W0 w1 := by rw [hw1]; exact drewN_below _ _
  have B1 := hid b1
  clear b1 hw1 y0
  go_wp2_with fail
  go_loopg [5] es.length (fun gh s5 wr => ∃ k : Nat, k ≤ es.length ∧ gh = es.length - k ∧ s5 = .int .i64 (k : Int) ∧ Hid (kf k = false) ∧ Hid (Below W0.heap.size W0 wr))
  case atStart => exact ⟨0, Nat.zero_le _, rfl, rfl, KF0.out, B1.out⟩
  case round =>
    clear B1
    rename World => wr
    obtain ⟨k, hk, rfl, rfl, HK, HBW⟩ := hrel
    have c2 := (H0.out.later HBW.out).c2
    by_cases hlt : k < es.length
    · have hki : (k : Int) < (es.length : Int) := by omega
      obtain ⟨e, hen⟩ := at_lt es k hlt
      have NX := hid (KFS.out k e hen HK.out)
      have hsl := H0.out.ents.2 e (List.mem_of_getElem? hen)
      obtain ⟨g, rfl, -⟩ := H0.out.ents.at rfl hen
      have CE : Hid (∀ W', Below wr.heap.size wr W' → W'.cell? ⟨ub, 2, none⟩ = some (.slice (some ⟨g, 0, none⟩) es.length cl) ∧ (∀ i, i < 12 → W'.cell? ⟨g, k * 12 + i, none⟩ = e.arr[i]?) ∧ W'.heap[W.heap.size]? = some (.cells #[.int .i64 uk, .int .i64 uid, .int .i64 uc, .int .i64 u0, .int .i64 u1, .int .i64 u2, .int .i64 u3, .int .i64 ut, .slice ap np cp, .int .i64 un, .int .i64 uo] 38 (0, 0))) := fun W' hb => by
        have hb2 := HBW.out.trans (hb.mono HBW.out.size)
        obtain ⟨g', e', dd⟩ := (H0.out.later hb2).ents.at rfl hen
        obtain rfl : g = g' := by simpa using e'
        exact ⟨(H0.out.later hb2).c2, dd, blk_seen hb2 (Nat.le_refl _) K0.out⟩
      have LR : Hid (∀ W', Below wr.heap.size wr W' → Calls Tryd.prog 32 #[.pointer (some ⟨ub, 0, none⟩)] W' fun e w => e = .returned (.int .i64 lm) ∧ ∃ m, w = W'.drewN m) := fun W' hb => LQ.out W' (HBW.out.trans (hb.mono HBW.out.size))
      have OE := hid (OL.out e.u hsl)
      obtain ⟨aq, nq2, cq2, hpv⟩ := hsl
      obtain ⟨m, xk, xid, ⟨xc, x0, x1, x2, x3, xt⟩, xpv, xps, xn, xo⟩ := e
      simp only at hpv OE NX
      subst hpv
      clear hen
      by_cases hml : m = lm
      · subst hml
        obtain ⟨ob, hob⟩ : ∃ ob, oldB ⟨xk, xid, ⟨xc, x0, x1, x2, x3, xt⟩, .slice aq nq2 cq2, xps, xn, xo⟩ ⟨uk, uid, ⟨uc, u0, u1, u2, u3, ut⟩, .slice ap np cp, ups, un, uo⟩ = ob := ⟨_, rfl⟩
        rw [hob] at OE NX
        have NX2 : Hid (kf (k + 1) = ob) := by show _ = _; rw [NX.out]; simp
        have KK : Hid (∀ W', Below wr.heap.size wr W' → W'.cell? ⟨ub, 2, none⟩ = some (.slice (some ⟨g, 0, none⟩) es.length cl) ∧ W'.cell? ⟨g, k * 12, none⟩ = some (.int .i64 m) ∧ (W'.cell? ⟨g, k * 12 + 1, none⟩ = some (.int .i64 xk) ∧ W'.cell? ⟨g, k * 12 + 2, none⟩ = some (.int .i64 xid) ∧ W'.cell? ⟨g, k * 12 + 3, none⟩ = some (.int .i64 xc) ∧ W'.cell? ⟨g, k * 12 + 4, none⟩ = some (.int .i64 x0) ∧ W'.cell? ⟨g, k * 12 + 5, none⟩ = some (.int .i64 x1) ∧ W'.cell? ⟨g, k * 12 + 6, none⟩ = some (.int .i64 x2) ∧ W'.cell? ⟨g, k * 12 + 7, none⟩ = some (.int .i64 x3) ∧ W'.cell? ⟨g, k * 12 + 8, none⟩ = some (.int .i64 xt) ∧ W'.cell? ⟨g, k * 12 + 9, none⟩ = some (.slice aq nq2 cq2) ∧ W'.cell? ⟨g, k * 12 + 10, none⟩ = some (.int .i64 xn) ∧ W'.cell? ⟨g, k * 12 + 11, none⟩ = some (.int .i64 xo)) ∧ (W'.cell? ⟨W.heap.size, 0, none⟩ = some (.int .i64 uk) ∧ W'.cell? ⟨W.heap.size, 1, none⟩ = some (.int .i64 uid) ∧ W'.cell? ⟨W.heap.size, 2, none⟩ = some (.int .i64 uc) ∧ W'.cell? ⟨W.heap.size, 3, none⟩ = some (.int .i64 u0) ∧ W'.cell? ⟨W.heap.size, 4, none⟩ = some (.int .i64 u1) ∧ W'.cell? ⟨W.heap.size, 5, none⟩ = some (.int .i64 u2) ∧ W'.cell? ⟨W.heap.size, 6, none⟩ = some (.int .i64 u3) ∧ W'.cell? ⟨W.heap.size, 7, none⟩ = some (.int .i64 ut) ∧ W'.cell? ⟨W.heap.size, 8, none⟩ = some (.slice ap np cp) ∧ W'.cell? ⟨W.heap.size, 9, none⟩ = some (.int .i64 un) ∧ W'.cell? ⟨W.heap.size, 10, none⟩ = some (.int .i64 uo))) := fun W' hb => by
          obtain ⟨q1, q2, q3⟩ := CE.out W' hb
          exact ⟨q1, q2 0 (by decide), ⟨q2 1 (by decide), q2 2 (by decide), q2 3 (by decide), q2 4 (by decide), q2 5 (by decide), q2 6 (by decide), q2 7 (by decide), q2 8 (by decide), q2 9 (by decide), q2 10 (by decide), q2 11 (by decide)⟩, cell_blk (j := 0) q3 rfl, cell_blk (j := 1) q3 rfl, cell_blk (j := 2) q3 rfl, cell_blk (j := 3) q3 rfl, cell_blk (j := 4) q3 rfl, cell_blk (j := 5) q3 rfl, cell_blk (j := 6) q3 rfl, cell_blk (j := 7) q3 rfl, cell_blk (j := 8) q3 rfl, cell_blk (j := 9) q3 rfl, cell_blk (j := 10) q3 rfl⟩
        have LW : Hid (∀ W', Below wr.heap.size wr W' → Calls Tryd.prog 32 #[.pointer (some ⟨ub, 0, none⟩)] W' fun e w => e = .returned (.int .i64 m) ∧ Below wr.heap.size wr w) := fun W' hb => (LR.out W' hb).mono fun _ _ ⟨q1, mm, q2⟩ => ⟨q1, by rw [q2]; exact hb.trans ((drewN_below _ _).mono hb.size)⟩
        have OW : Hid (∀ W', Below wr.heap.size wr W' → Calls Tryd.prog 35 #[.agg #[.int .i64 xk, .int .i64 xid, .int .i64 xc, .int .i64 x0, .int .i64 x1, .int .i64 x2, .int .i64 x3, .int .i64 xt, .slice aq nq2 cq2, .int .i64 xn, .int .i64 xo], .agg #[.int .i64 uk, .int .i64 uid, .int .i64 uc, .int .i64 u0, .int .i64 u1, .int .i64 u2, .int .i64 u3, .int .i64 ut, .slice ap np cp, .int .i64 un, .int .i64 uo]] W' fun e w => e = .returned (.bool ob) ∧ Below wr.heap.size wr w) := fun W' hb => (OE.out W').mono fun _ _ ⟨q1, q2⟩ => ⟨q1, hb.trans (q2.mono hb.size)⟩
        clear OE LR CE hob NX c2
        have c2 := (KK.out wr (Below.refl _ _)).1
        go_upto_region 8 with fail
        go_region_held3 (fun W' => W'.cell? ⟨ub, 2, none⟩ = some (.slice (some ⟨g, 0, none⟩) es.length cl) ∧ W'.cell? ⟨g, k * 12, none⟩ = some (.int .i64 m) ∧ (W'.cell? ⟨g, k * 12 + 1, none⟩ = some (.int .i64 xk) ∧ W'.cell? ⟨g, k * 12 + 2, none⟩ = some (.int .i64 xid) ∧ W'.cell? ⟨g, k * 12 + 3, none⟩ = some (.int .i64 xc) ∧ W'.cell? ⟨g, k * 12 + 4, none⟩ = some (.int .i64 x0) ∧ W'.cell? ⟨g, k * 12 + 5, none⟩ = some (.int .i64 x1) ∧ W'.cell? ⟨g, k * 12 + 6, none⟩ = some (.int .i64 x2) ∧ W'.cell? ⟨g, k * 12 + 7, none⟩ = some (.int .i64 x3) ∧ W'.cell? ⟨g, k * 12 + 8, none⟩ = some (.int .i64 xt) ∧ W'.cell? ⟨g, k * 12 + 9, none⟩ = some (.slice aq nq2 cq2) ∧ W'.cell? ⟨g, k * 12 + 10, none⟩ = some (.int .i64 xn) ∧ W'.cell? ⟨g, k * 12 + 11, none⟩ = some (.int .i64 xo)) ∧ (W'.cell? ⟨W.heap.size, 0, none⟩ = some (.int .i64 uk) ∧ W'.cell? ⟨W.heap.size, 1, none⟩ = some (.int .i64 uid) ∧ W'.cell? ⟨W.heap.size, 2, none⟩ = some (.int .i64 uc) ∧ W'.cell? ⟨W.heap.size, 3, none⟩ = some (.int .i64 u0) ∧ W'.cell? ⟨W.heap.size, 4, none⟩ = some (.int .i64 u1) ∧ W'.cell? ⟨W.heap.size, 5, none⟩ = some (.int .i64 u2) ∧ W'.cell? ⟨W.heap.size, 6, none⟩ = some (.int .i64 u3) ∧ W'.cell? ⟨W.heap.size, 7, none⟩ = some (.int .i64 ut) ∧ W'.cell? ⟨W.heap.size, 8, none⟩ = some (.slice ap np cp) ∧ W'.cell? ⟨W.heap.size, 9, none⟩ = some (.int .i64 un) ∧ W'.cell? ⟨W.heap.size, 10, none⟩ = some (.int .i64 uo)))
          (first | exact KK.out _ (by assumption) | exact KK.out _ (Below.refl _ _).drew | exact KK.out _ (Below.refl _ _))
          (first
            | (go_at_call 32; refine (LW.out _ (by first | assumption | exact (Below.refl _ _).drew | exact Below.refl _ _)).mono ?_; rintro e w8 ⟨rfl, hb8⟩)
            | (go_at_call 35; refine (OW.out _ (by first | assumption)).mono ?_; rintro e w9 ⟨rfl, hb9⟩))
        all_goals
          have HB9 : Hid (Below W0.heap.size W0 w9) := HBW.out.trans (hb9.mono HBW.out.size)
          clear KK LW OW c2 hb8 hb9
          cases ob with
          | true =>
            have RE := hid (NR1.out (KFT.out (k + 1) (by omega) NX2.out))
            have RW : Hid (Rw B ub most ms es w9) := ⟨_, _, H0.out.later HB9.out⟩
            have RS : Hid (St (fun k => k = ub) W w9) := St.of_below (B0.out.trans (HB9.out.mono B0.out.size))
            go_wp2_with fail
            go_ret
            exact ⟨by rw [RE.out]; rfl, by rw [RE.out]; exact RW.out, RS.out⟩
          | false =>
            go_wp2_with fail
            go_roundg (es.length - (k + 1))
            case measure => omega
            case rel => exact ⟨k + 1, by omega, rfl, by go_num, NX2.out, HB9.out⟩
      · have hmb : (m == lm) = false := beq_eq_false_iff_ne.2 hml
        have NX2 : Hid (kf (k + 1) = false) := by show _ = _; rw [NX.out, hmb]; rfl
        have d0 : wr.cell? ⟨g, k * 12, none⟩ = some (.int .i64 m) := (CE.out wr (Below.refl _ _)).2.1 0 (by decide)
        clear OE CE NX
        go_upto_region 8 with fail
        go_quiet ((go_at_call 32; exact Calls.quiet_of (LR.out _ (drewN_below _ _))))
        have HB9 : Hid (Below W0.heap.size W0 (wr.drewN nq)) := HBW.out.trans ((drewN_below _ _).mono HBW.out.size)
        clear LR c2 d0
        go_wp2_with fail
        go_roundg (es.length - (k + 1))
        case measure => omega
        case rel => exact ⟨k + 1, by omega, rfl, by go_num, NX2.out, HB9.out⟩
    · obtain rfl : k = es.length := by omega
      have hki : ¬ (es.length : Int) < (es.length : Int) := by omega
      have KN : Hid (knownR ms es _ = false) := KFN.out.symm.trans HK.out
      have c0 := (H0.out.later HBW.out).c0
      by_cases hf : most ≤ es.length
      · have RE := hid (NR2.out KN.out hf)
        have hfi : (most : Int) ≤ (es.length : Int) := by omega
        have RW : Hid (∀ m, Rw B ub most ms es (wr.drewN m)) := fun m => ⟨_, _, (H0.out.later HBW.out).later (drewN_below _ _)⟩
        have RS : Hid (∀ m, St (fun k => k = ub) W (wr.drewN m)) := fun m => (St.of_below (B0.out.trans (HBW.out.mono B0.out.size))).trans (St.of_below (S := fun k => k = ub) (drewN_below wr m)) fun _ _ q => q
        go_wp2_with fail
        go_quiet (fail)
        go_wp2_with fail
        go_ret
        exact ⟨by rw [RE.out]; rfl, by rw [RE.out]; exact RW.out _, RS.out _⟩
      · have RE := hid (NR3.out KN.out hf)
        have hfi : ¬ (most : Int) ≤ (es.length : Int) := by omega
        go_wp2_with fail
        go_quiet (fail)
        go_upto_region 12 with fail
        obtain ⟨w5, hw5⟩ : ∃ w5, w5 = wr.drewN nq := ⟨_, rfl⟩
        have b5 : Below W0.heap.size W0 w5 := by rw [hw5]; exact HBW.out.trans ((drewN_below _ _).mono HBW.out.size)
        rw [← hw5]
        have B5 := hid b5
        have H5 := hid (H0.out.later b5)
        have x5 := blk_seen b5 (Nat.le_refl _) K0.out
        have f5 := H5.out.c2
        have fa := seen (bAl w5 (.cells #[] 79)) (Nat.le_refl _) f5
        have X5 := hid x5
        have OD : Hid (∀ wc, Below (w5.alloc (.cells #[] 79)).heap.size (w5.alloc (.cells #[] 79)) wc → Rdy W0 w5.heap.size B w5.heap.size (.slice al es.length cl) es wc) := fun wc hb => by
          have hb1 := bAl w5 (.cells #[] 79)
          have hb2 := hb1.trans (hb.mono hb1.size)
          refine ⟨own_st (World.ownsRow_lit (base := w5.heap.size) (e := 79) (size := 12) w5 #[] 0 (Nat.le_refl _) (Nat.zero_le _) rfl) (St.of_below (S := fun _ => False) hb) (fun _ _ q => q), ((H5.out.later hb2).ents).1, hb2.size, B5.out.trans (hb2.mono B5.out.size), B5.out.size⟩
        have ON := hid (eCells_one es H5.out.ents.2)
        have LN : Hid (es.length ≤ 100000) := by have := HLE.out; show _ ≤ _; omega
        have LC : Hid (∀ v6 W', Rd2 W0 w5.heap.size v6 es W' → Calls Tryd.prog 32 #[.pointer (some ⟨ub, 0, none⟩)] W' fun e w => e = .returned (.int .i64 lm) ∧ Rd2 W0 w5.heap.size v6 es w) := fun v6 W' h6 => (LQ.out W' h6.b).mono fun _ _ ⟨q1, mm, q2⟩ => ⟨q1, by rw [q2]; exact h6.later (drewN_below _ _)⟩
        have XC : Hid (∀ W', Below W0.heap.size W0 W' → W'.cell? ⟨W.heap.size, 0, none⟩ = some (.int .i64 uk) ∧ W'.cell? ⟨W.heap.size, 1, none⟩ = some (.int .i64 uid) ∧ W'.cell? ⟨W.heap.size, 2, none⟩ = some (.int .i64 uc) ∧ W'.cell? ⟨W.heap.size, 3, none⟩ = some (.int .i64 u0) ∧ W'.cell? ⟨W.heap.size, 4, none⟩ = some (.int .i64 u1) ∧ W'.cell? ⟨W.heap.size, 5, none⟩ = some (.int .i64 u2) ∧ W'.cell? ⟨W.heap.size, 6, none⟩ = some (.int .i64 u3) ∧ W'.cell? ⟨W.heap.size, 7, none⟩ = some (.int .i64 ut) ∧ W'.cell? ⟨W.heap.size, 8, none⟩ = some (.slice ap np cp) ∧ W'.cell? ⟨W.heap.size, 9, none⟩ = some (.int .i64 un) ∧ W'.cell? ⟨W.heap.size, 10, none⟩ = some (.int .i64 uo)) := fun W' hb => by
          have q := blk_seen hb (Nat.le_refl _) K0.out
          exact ⟨cell_blk (j := 0) q rfl, cell_blk (j := 1) q rfl, cell_blk (j := 2) q rfl, cell_blk (j := 3) q rfl, cell_blk (j := 4) q rfl, cell_blk (j := 5) q rfl, cell_blk (j := 6) q rfl, cell_blk (j := 7) q rfl, cell_blk (j := 8) q rfl, cell_blk (j := 9) q rfl, cell_blk (j := 10) q rfl⟩
        obtain ⟨y0, y1, y2, y3, y4, y5, y6, y7, y8, y9, y10⟩ := XC.out w5 b5
        obtain ⟨s0, s1, s2, s3, s4, s5, s6, s7, s8, s9, s10⟩ := XC.out (w5.alloc (.cells #[] 79)) (b5.trans ((bAl _ _).mono b5.size))
        clear hw5 b5 x5 c0 c2
        go_region_law (first
          | (refine step_cp rfl _ _ rfl (OD.out _ (by first | exact Below.refl _ _ | exact (Below.refl _ _).drew)) ON.out LN.out rfl rfl ?_; intro a6 c6 w6 h6; clear ON; obtain ⟨z0, z1, z2, z3, z4, z5, z6, z7, z8, z9, z10⟩ := XC.out w6 h6.out.b)
          | (refine step_en (e := ⟨lm, uk, uid, ⟨uc, u0, u1, u2, u3, ut⟩, .slice ap np cp, ups, un, uo⟩) rfl _ _ rfl h8 SU.out LN.out rfl rfl ?_; intro g9 cap9 w9 hO9 hB9; have bx := (H0.out.later hB9.out).box; have k9 := (H0.out.later hB9.out).c2; have f9 := blk_free bx 2)
          | (go_simp; refine (LC.out _ _ (by first | exact h6.out | exact h6.out.later (Below.refl _ _).drew)).mono ?_; rintro e w8 ⟨rfl, h8⟩; obtain ⟨t0, t1, t2, t3, t4, t5, t6, t7, t8, t9, t10⟩ := XC.out w8 h8.b))
        all_goals
          obtain ⟨r4, s4⟩ := (H0.out.later hB9.out).renew2 (lv' := .slice (some ⟨g9, 0, none⟩) (es.length + 1) cap9) (es' := es ++ [⟨lm, uk, uid, ⟨uc, u0, u1, u2, u3, ut⟩, .slice ap np cp, ups, un, uo⟩]) ⟨by rw [List.length_append]; exact own_lower hO9.out (Nat.le_trans (Nat.le_trans HB.out B0.out.size) B5.out.size), fun e he => by
            rcases List.mem_append.1 he with he | he
            · exact H5.out.ents.2 e he
            · obtain rfl := List.mem_singleton.1 he
              exact SU.out⟩
          have RW : Hid (Rw B ub most ms (es ++ [⟨lm, uk, uid, ⟨uc, u0, u1, u2, u3, ut⟩, .slice ap np cp, ups, un, uo⟩]) (w9.setCell ⟨ub, 2, none⟩ (.slice (some ⟨g9, 0, none⟩) (es.length + 1) cap9))) := ⟨_, _, r4⟩
          have RS : Hid (St (fun k => k = ub) W (w9.setCell ⟨ub, 2, none⟩ (.slice (some ⟨g9, 0, none⟩) (es.length + 1) cap9))) := (St.of_below (S := fun k => k = ub) (B0.out.trans (hB9.out.mono B0.out.size))).trans s4 fun _ _ q => q
          clear r4 s4 bx k9 f9 hO9 hB9
          go_wp2_with fail
          go_ret
          exact ⟨by rw [RE.out]; rfl, by rw [RE.out]; exact RW.out, RS.out⟩
end
end Go.Proofs.YtnbgjbdbbmpoaaaDoor.Jo
