/- A journal: Forget. -/
import Derived.Test.YtnbgjbdbbmpoaaaDoorJoJr
namespace Go.Proofs.YtnbgjbdbbmpoaaaDoor.Jo
open Go.RowKit Go.Shelf Go.Maps
section
variable {B : Nat} {W W' : World} {jb : Nat} {sv mv : Value} {most : Nat} {st : List Sx} {Ad : Nat → Addr}
/-- What Forget leaves. -/
theorem Jn.forgot {g off cap : Nat} {w1 w2 w4 : World} {n : Nat} {cs : Array Value} (h : Jn B W jb (.slice (some ⟨g, off, none⟩) st.length cap) mv most st) (hn : n < st.length) (hb : Below W.heap.size W w1)
    (s2 : St (fun k => k = g) w1 w2) (h2 : w2.heap[g]? = some (.cells cs 75 (0, 0))) (hz : ∀ c1, w1.heap[g]? = some (.cells c1 75 (0, 0)) → cs.size = c1.size ∧ ∀ j, off + n * 2 ≤ j → cs[j]? = c1[j]?)
    (e4 : w4 = (w2.setCell ⟨jb, 2, none⟩ (.slice (some ⟨g, off + n * 2, none⟩) (st.length - n) (cap - n))).setCell ⟨jb, 1, none⟩ (.int .i64 ((tot (st.drop n) : Nat) : Int))) :
    Jn B w4 jb (.slice (some ⟨g, off + n * 2, none⟩) (st.length - n) (cap - n)) mv most (st.drop n) ∧ St (fun k => k = jb ∨ k = g) W w4 := by
  have j1 := h.later hb
  have hgr : (Value.slice (some ⟨g, off, none⟩) st.length cap).ownBlock = some g := rfl
  have hgj := j1.ne_row hgr
  obtain ⟨cg, tg⟩ := j1.row.typ hgr
  have b2 := s2.at j1.box (fun q => hgj q.symm)
  have b3 := heap_setCell_same w2 jb 2 _ _ (.slice (some ⟨g, off + n * 2, none⟩) (st.length - n) (cap - n)) b2
  have b4 := heap_setCell_same _ jb 1 _ _ (.int .i64 ((tot (st.drop n) : Nat) : Int)) b3
  rw [← e4] at b4
  have s24 : St (fun k => k = jb) w2 w4 := by
    rw [e4]
    exact (St.setCell (S := fun k => k = jb) _ rfl).trans (St.setCell (S := fun k => k = jb) _ rfl) fun _ _ q => q
  have s14 : St (fun k => k = jb ∨ k = g) w1 w4 := by
    have q : St (fun k => k = jb ∨ k = g) w1 w2 := ⟨s2.os, s2.tape, s2.output, s2.size, fun k hk m => s2.block k hk fun e => m (.inr e)⟩
    exact q.trans s24 fun _ _ e => .inl e
  have sub : ∀ s ∈ st.drop n, s ∈ st := fun s hs => List.mem_of_mem_drop hs
  have htl : tot (st.drop n) ≤ tot st := by
    have := tot_app (st.take n) (st.drop n)
    rw [List.take_append_drop] at this
    omega
  refine ⟨⟨by simpa using b4, ?_, fun s hs => ?_, ?_, fun a s e => ?_, ?_, fun s hs => h.rng s (sub s hs), fun s hs => h.good s (sub s hs), ⟨Nat.le_trans htl h.few.1, h.few.2⟩, fun k hk => h.slow k (by simpa [Value.ownBlock] using hk), h.mlow⟩, (St.of_below (S := fun k => k = jb ∨ k = g) hb).trans s14 fun _ _ q => q⟩
  · have r1 := j1.row.high n (Nat.le_of_lt hn)
    rw [sCells_drop] at r1
    rw [List.length_drop]
    have r2 : Lie w2 75 2 (.slice (some ⟨g, off + n * 2, none⟩) (st.length - n) (cap - n)) (st.length - n) (sCells (st.drop n)) := by
      refine ⟨r1.1, .inr ?_⟩
      obtain ⟨g2, off2, cap2, cur, q, q2, q3, q4, q5, q6⟩ := r1.2.resolve_left (by simp)
      simp only [Value.slice.injEq, Option.some.injEq, Addr.mk.injEq, and_true, true_and] at q
      obtain ⟨⟨rfl, rfl⟩, rfl⟩ := q
      obtain ⟨z1, z2⟩ := hz cur q2
      exact ⟨g, off + n * 2, cap - n, cs, rfl, h2, q3, q4, by omega, fun j hj => by rw [z2 _ (by omega)]; exact q6 j hj⟩
    exact r2.kept s24 fun k hk q => by
      obtain rfl : g = k := by simpa [Value.ownBlock] using hk
      exact hgj q
  · have us := j1.ents s (sub s hs)
    refine us.kept s14 (fun k hk => ?_) fun u hu k hk => ?_
    · obtain ⟨-, c, q⟩ := us.typ hk
      rintro (rfl | rfl)
      · rw [j1.box] at q; simp at q
      · rw [tg] at q; simp at q
    · obtain ⟨c, q⟩ := (us.2 u hu).at hk
      rintro (rfl | rfl)
      · rw [j1.box] at q; simp at q
      · rw [tg] at q; simp at q
  · exact h.apart.sublist ((List.drop_sublist n st).filterMap _)
  · have e2 : st = (st.take n ++ a) ++ [s] := by rw [List.append_assoc, ← e, List.take_append_drop]
    obtain ⟨mb, q1, q2⟩ := j1.told _ s e2
    obtain ⟨es, cl, qo⟩ := q2.obj
    refine ⟨mb, q1, q2.kept s14 ?_⟩
    rintro (rfl | rfl)
    · rw [j1.box] at qo; cases qo
    · rw [tg] at qo; cases qo
  · exact h.up.sublist ((List.drop_sublist n st).map _)
set_option maxHeartbeats 800000 in
theorem forget_nil (x : Int) (W : World) :
    Calls Tryd.prog 20 #[.pointer none, .int .i64 x] W fun e W' => e = .returned (.int .i64 0) ∧ W' = W := by
  go_enter Tryd.func20, Tryd.ntmps20
  go_wp2_with fail
  go_ret
  exact ⟨rfl, rfl⟩
set_option maxHeartbeats 800000 in
theorem forget_none (h : Jn B W jb sv mv most []) (x : Int) :
    Calls Tryd.prog 20 #[.pointer (some ⟨jb, 0, none⟩), .int .i64 x] W fun e W' => e = .returned (.int .i64 0) ∧ W' = W := by
  have c2 := h.c2
  obtain ⟨a, c, rfl⟩ := h.row.form
  clear h
  go_enter Tryd.func20, Tryd.ntmps20
  go_wp2_with fail
  go_ret
  exact ⟨rfl, rfl⟩
/-- Where the marks that stay begin. -/
def stays (st : List Sx) (x : Int) : Nat := min (belowN st x) (st.length - 1)
theorem belowN_le (st : List Sx) (x : Int) : belowN st x ≤ st.length := List.countP_le_length
theorem tot_take (st : List Sx) {k : Nat} {s : Sx} (h : st[k]? = some s) : tot (st.take (k + 1)) = tot (st.take k) + s.l.length := by
  obtain ⟨hl, rfl⟩ := List.getElem?_eq_some_iff.1 h
  rw [List.take_succ_eq_append_getElem hl, tot_snoc]
theorem tot_take_le (st : List Sx) (k : Nat) : tot (st.take k) ≤ tot st := by
  have := tot_app (st.take k) (st.drop k)
  rw [List.take_append_drop] at this
  omega
set_option maxHeartbeats 6400000 in
set_option maxRecDepth 100000 in
theorem forget_ok (h : Jn B W jb sv mv most st) (h0 : st ≠ []) (hst : st.length ≤ 1000000) (x : Int) :
    Calls Tryd.prog 20 #[.pointer (some ⟨jb, 0, none⟩), .int .i64 x] W fun e W' => e = .returned (.int .i64 ((tot (st.take (stays st x)) : Nat) : Int)) ∧ ∃ sv', Jn B W' jb sv' mv most (st.drop (stays st x)) ∧ St (fun k => k = jb ∨ sv.ownBlock = some k) W W' := by
  have hpos : 0 < st.length := List.length_pos_iff.2 h0
  have C := hid (place_any h x)
  obtain ⟨g, off, cap, rfl, hcap, hcm, -⟩ := h.row.pos hpos
  have hle := belowN_le st x
  have hmin : stays st x < st.length := by unfold stays; omega
  have hmin2 : (belowN st x < st.length ∧ stays st x = belowN st x) ∨ (belowN st x = st.length ∧ stays st x + 1 = st.length) := by unfold stays; omega
  have FG := hid (fun w1 w2 w4 cs => Jn.forgot (w1 := w1) (w2 := w2) (w4 := w4) (cs := cs) (n := stays st x) h hmin)
  have HH := hid h
  have c2 := h.c2
  have hfew : tot st ≤ 65536 := Nat.le_trans h.few.1 h.few.2
  have hsum : tot st = tot (st.take (stays st x)) + tot (st.drop (stays st x)) := by rw [← tot_app, List.take_append_drop]
  obtain ⟨r, hr⟩ : ∃ r, markedB st x = r := ⟨_, rfl⟩
  rw [hr] at C
  generalize belowN st x = m at C hmin2 hle
  generalize stays st x = n at FG hmin hmin2 hsum ⊢
  have hsi : (st.length : Int) ≤ 1000000 := by omega
  have hci : (st.length : Int) ≤ (cap : Int) := by omega
  have hmx : (cap : Int) ≤ 9223372036854775807 := by unfold maxLen at hcm; omega
  have hni : (n : Int) < (st.length : Int) := by omega
  have hl0 : ¬ (st.length : Int) = 0 := by omega
  have hl0b : ((st.length : Int) == 0) = false := by simp; omega
  have hl1 : ((st.length : Int) - 1) < 9223372036854775807 := by omega
  have HMIN : Hid ((if (st.length : Int) - 1 < (m : Int) then (st.length : Int) - 1 else (m : Int)) = (n : Int) ∧ (min (m : Int) ((st.length : Int) - 1)) = (n : Int)) := by
    constructor
    · split <;> omega
    · omega
  have HSU := hid hsum
  have HM2 := hid hmin2
  clear h hr hle hmin2 hsum h0
  go_enter Tryd.func20, Tryd.ntmps20
  go_wp2_with fail
  refine C.out.mono ?_
  rintro e w0 ⟨rfl, hb⟩
  have HB := hid hb
  have d2 := (HH.out.later hb).c2
  clear hb C c2
  go_upto_region 5 with fail
  first
  | rw [HMIN.out.1]
  | rw [HMIN.out.2]
  clear HMIN d2
  have L0 := hid (HH.out.row)
  have d2 := (HH.out.later HB.out).c2
  go_wp2_with fail
  clear d2
  go_loopg [7, 41] n (fun gh s7 s41 wr => ∃ k : Nat, k ≤ n ∧ gh = n - k ∧ s41 = .int .i64 (k : Int) ∧ s7 = .int .i64 ((tot (st.take k) : Nat) : Int) ∧ Hid (Below W.heap.size W wr))
  case atStart => exact ⟨0, Nat.zero_le _, rfl, rfl, by simp [tot], HB.out⟩
  case round =>
    rename World => wr
    obtain ⟨k, hk, rfl, rfl, rfl, HBR⟩ := hrel
    have hkt : (tot (st.take k) : Int) ≤ 65536 := by have := tot_take_le st k; omega
    by_cases hlt : k < n
    · have hki : (k : Int) < (n : Int) := by omega
      obtain ⟨s, hs⟩ : ∃ s, st[k]? = some s := ⟨_, List.getElem?_eq_getElem (by omega)⟩
      obtain ⟨ae, ce, hev⟩ := (HH.out.ents s (List.mem_of_getElem? hs)).form
      obtain ⟨g', off', cap', e, -, -, hcl⟩ := (L0.out.later HBR.out).pos hpos
      obtain ⟨⟨rfl, rfl⟩, rfl⟩ : (g = g' ∧ off = off') ∧ cap = cap' := by simpa using e
      obtain ⟨q1, q2⟩ := sCells_at st _ s hs
      have d0 := hcl (k * 2) (by omega)
      have d1 := hcl (k * 2 + 1) (by omega)
      rw [q1] at d0
      rw [q2, hev, ← Nat.add_assoc] at d1
      have TT := hid (tot_take st hs)
      have hsl : (s.l.length : Int) ≤ 65536 := by
        have := tot_take_le st (k + 1)
        have := TT.out
        omega
      clear hcl q1 q2 hev hs e
      go_wp2_with fail
      go_roundg (n - (k + 1))
      case measure => omega
      case rel => exact ⟨k + 1, by omega, rfl, by go_num, by rw [TT.out]; go_num, HBR.out.alloc HBR.out.size _⟩
    · obtain rfl : k = n := by omega
      have hki : ¬ (k : Int) < (k : Int) := by omega
      have jr := HH.out.later HBR.out
      have d2 := jr.c2
      obtain ⟨cg, tg⟩ := jr.row.typ (k := g) rfl
      have hgj : ¬ g = jb := fun q => jr.ne_row (k := g) rfl q
      have hjg : ¬ jb = g := fun q => hgj q.symm
      have hfit : off + k * 2 ≤ cg.size := by
        obtain ⟨g2, off2, cap2, cur, q, q2, q3, q4, q5, -⟩ := jr.row.2.resolve_left (by simp)
        obtain ⟨rfl, rfl, rfl⟩ : g = g2 ∧ off = off2 ∧ cap = cap2 := by simpa [and_assoc] using q
        rw [tg] at q2
        cases q2
        omega
      obtain ⟨w2, hr2, s2, cs2, t2, z2, -, k2⟩ := run_clr (c := cap) tg hfit
      have bx2 := s2.at jr.box (fun q => hjg q)
      have e1 : w2.cell? ⟨jb, 2, none⟩ = some (.slice (some ⟨g, off, none⟩) st.length cap) := cell_blk bx2 rfl
      have e2 : w2.cell? ⟨jb, 1, none⟩ = some (.int .i64 (tot st : Int)) := cell_blk bx2 rfl
      have f1 := blk_free bx2 1
      have f2 := blk_free bx2 2
      have KK := hid (fun w4 => FG.out wr w2 w4 cs2 HBR.out s2 t2 (fun c1 q => by
        rw [tg] at q
        cases q
        exact ⟨z2, k2⟩))
      have ev : (tot st : Int) - ((tot (st.take k) : Nat) : Int) = ((tot (st.drop k) : Nat) : Int) := by have := HSU.out; omega
      have htb : (tot st : Int) ≤ 65536 := by omega
      have EV := hid ev
      clear tg hfit s2 t2 z2 k2 bx2 jr ev FG hk hlt
      go_upto_region 14 with fail
      rw [EV.out]
      clear d2 e1 e2 f1 f2 hr2
      go_wp2_with fail
      go_ret
      obtain ⟨r1, r2⟩ := KK.out _ rfl
      have r3 : St (fun k => k = jb ∨ (Value.slice (some ⟨g, off, none⟩) st.length cap).ownBlock = some k) W _ := ⟨r2.os, r2.tape, r2.output, r2.size, fun j hj m => r2.block j hj fun e => m (e.imp id fun e => by rw [e]; rfl)⟩
      first
      | exact ⟨rfl, _, r1, r3⟩
      | exact ⟨rfl, ⟨_, r1⟩, r3⟩
end
/-- A number, as a value. -/
def gz (x : Int) : Value := .int .i64 x
theorem infoIntJ : (Tryd.prog.info? 3).map (fun i => (i.zero, i.size, i.bytes)) = some (some (.int .i64 0), 1, 8) := by kernel_rfl
/-- A row of numbers that is owned. -/
def Ns (B : Nat) (W : World) (v : Value) (l : List Int) : Prop := W.ownsRow B 3 1 v l.length (l.map gz)
theorem Ns.slice {B : Nat} {W : World} {v : Value} {l : List Int} (h : Ns B W v l) : ∃ a c, v = .slice a l.length c := own_slice h
theorem Ns.later {B : Nat} {W W' : World} {v : Value} {l : List Int} (h : Ns B W v l) (hb : Below W.heap.size W W') : Ns B W' v l := own_later h fun _ _ _ hb' => blk_seen hb (Nat.le_refl _) hb'
theorem Ns.kept {B : Nat} {W W' : World} {v : Value} {l : List Int} {T : Nat → Prop} (h : Ns B W v l) (hs : St T W W') (hn : ∀ k, v.ownBlock = some k → ¬ T k) : Ns B W' v l := own_st h hs hn
theorem Ns.typ {B : Nat} {W : World} {v : Value} {l : List Int} (h : Ns B W v l) {k : Nat} (hk : v.ownBlock = some k) : B ≤ k ∧ ∃ cur, W.heap[k]? = some (.cells cur 3 (0, 0)) := by
  rcases h.2 with ⟨h1, -⟩ | ⟨g, cap, cur, h1, h2, h3, -⟩
  · rw [h1] at hk; cases hk
  · rw [h1] at hk
    obtain rfl : g = k := by simpa [Value.ownBlock] using hk
    exact ⟨h2, cur, h3⟩
theorem Ns.at {B : Nat} {W : World} {a : Option Addr} {c : Nat} {l : List Int} (h : Ns B W (.slice a l.length c) l) {j : Nat} {x : Int} (hj : l[j]? = some x) : ∃ g, a = some ⟨g, 0, none⟩ ∧ W.cell? ⟨g, j, none⟩ = some (.int .i64 x) ∧ W.frozen? ⟨g, j, none⟩ = false := by
  have hlt := (List.getElem?_eq_some_iff.1 hj).1
  obtain ⟨g, rfl, -⟩ := own_some h (by omega)
  refine ⟨g, rfl, ?_, World.ownsRow.frozenAt h j⟩
  rw [World.ownsRow.cellAt h j (by omega), List.getElem?_map, hj]
  rfl
/-- append of one number. -/
theorem wpList_num {ops : Array Oper} {rest : List Oper} {o : Oper} {a : Act} {Q : Exit → Act → World → Prop} (hgd : o.guard = none) (s x : Operand)
    (ho : o.op = .call { callee := .builtin .append, args := #[s, x], argTypes := #[53, 53] }) {B : Nat} {wc : World} {v : Value} {l : List Int} {k : Int} (hown : Ns B wc v l) (hl : l.length ≤ 10000000) (hB : B ≤ wc.heap.size)
    (hs : a.eval s = v) (hx : a.eval x = .slice (some ⟨wc.heap.size, 0, none⟩) 1 1)
    (h : ∀ v' w2, Hid (Ns B w2 v' (l ++ [k])) → Hid (St (fun x => v.ownBlock = some x) wc w2) → wpList Tryd.prog ops Q rest (a.put o.dst v') w2) :
    wpList Tryd.prog ops Q (o :: rest) a (wc.alloc (.cells #[.int .i64 k] 3)) := by
  obtain ⟨i0, hi, hz0, hz1, hz2⟩ := info_parts infoIntJ
  have hb : Below wc.heap.size wc (wc.alloc (.cells #[.int .i64 k] 3)) := bAl _ _
  have ho2 : (wc.alloc (.cells #[.int .i64 k] 3)).ownsRow B 3 1 v l.length (l.map gz) := World.ownsRow.alloc hown _
  refine wpList_append_lies _ hgd s x 53 ho B 3 i0 (.int .i64 0) 1 8 Tryd.underlying53 hi hz0 hz1 hz2 rfl (by decide) v l.length (l.map gz) hs ho2 ⟨wc.heap.size, 0, none⟩ 1 1 [gz k] hx rfl (fun j u hu => by
    rw [add_at]
    match j, hu with
    | 0, hu => simp at hu; subst hu; exact new_cell wc _ 3
    | j + 1, hu => simp at hu) (by intro u hu; simp at hu; subst hu; rfl) (by decide) (by unfold maxLen; omega) (by omega) (by simp; omega) (wc.heap.size + 1) (by simp) ?_
  intro g' cap w2 ow hg hat hlt
  refine h _ w2 ?_ ((St.of_below hb).trans (St.of_grown (S := fun x => v.ownBlock = some x) hg fun k e => e) fun _ _ q => q)
  show World.ownsRow _ _ _ _ _ _ _
  have e : (l ++ [k]).length = l.length + 1 := by simp
  rw [e, List.map_append]
  exact ow
section
variable {B : Nat} {W W' : World} {jb : Nat} {sv mv : Value} {most : Nat} {st : List Sx} {Ad : Nat → Addr}
set_option maxHeartbeats 800000 in
theorem marks_nil (W : World) :
    Calls Tryd.prog 26 #[.pointer none] W fun e W' => e = .returned (.slice none 0 0) ∧ W' = W := by
  go_enter Tryd.func26, Tryd.ntmps26
  go_wp2_with fail
  go_ret
  exact ⟨rfl, rfl⟩
set_option maxHeartbeats 3200000 in
set_option maxRecDepth 100000 in
theorem marks_any (h : Jn B W jb sv mv most st) (hst : st.length ≤ 1000000) :
    Calls Tryd.prog 26 #[.pointer (some ⟨jb, 0, none⟩)] W fun e W' => ∃ v, e = .returned v ∧ Ns W.heap.size W' v (st.map Sx.f) ∧ Below W.heap.size W W' := by
  have c2 := h.c2
  have HH := hid h
  obtain ⟨a, c, rfl⟩ := h.row.form
  have hsi : (st.length : Int) ≤ 1000000 := by omega
  clear h
  go_enter Tryd.func26, Tryd.ntmps26
  go_wp2_with fail
  go_loopg [3, 13] st.length (fun gh s3 s13 wr => ∃ (k : Nat) (av : Option Addr) (cv : Nat), k ≤ st.length ∧ gh = st.length - k ∧ s13 = .int .i64 (k : Int) ∧ s3 = .slice av k cv ∧ Hid (Ns W.heap.size wr (.slice av k cv) ((st.map Sx.f).take k)) ∧ Hid (Below W.heap.size W wr))
  case atStart => exact ⟨0, none, 0, Nat.zero_le _, rfl, rfl, rfl, by show Ns _ _ _ _; exact World.ownsRow_nil _ _ _ _, Below.refl _ _⟩
  case round =>
    rename World => wr
    obtain ⟨k, av, cv, hk, rfl, rfl, rfl, HN, HBR⟩ := hrel
    by_cases hlt : k < st.length
    · have hki : (k : Int) < (st.length : Int) := by omega
      obtain ⟨s, hs⟩ : ∃ s, st[k]? = some s := ⟨_, List.getElem?_eq_getElem (by omega)⟩
      obtain ⟨ae, ce, hev⟩ := (HH.out.ents s (List.mem_of_getElem? hs)).form
      obtain ⟨g, off, cap, e, -, -, hcl⟩ := (HH.out.later HBR.out).row.pos (by omega)
      obtain ⟨rfl, rfl⟩ : a = some ⟨g, off, none⟩ ∧ c = cap := by simpa using e
      obtain ⟨q1, q2⟩ := sCells_at st _ s hs
      have d0 := hcl (k * 2) (by omega)
      have d1 := hcl (k * 2 + 1) (by omega)
      rw [q1] at d0
      rw [q2, hev, ← Nat.add_assoc] at d1
      have TK : Hid ((st.map Sx.f).take (k + 1) = (st.map Sx.f).take k ++ [s.f]) := by
        show _ = _
        have : (st.map Sx.f)[k]? = some s.f := by simp [hs]
        obtain ⟨hl, e2⟩ := List.getElem?_eq_some_iff.1 this
        rw [List.take_succ_eq_append_getElem hl, e2]
      have hl3 : ((st.map Sx.f).take k).length ≤ 10000000 := by simp; omega
      have HL3 := hid hl3
      obtain ⟨wa, hwa⟩ : ∃ wa, wa = wr.alloc (.cells #[.int .i64 s.f, .slice ae s.l.length ce] 75) := ⟨_, rfl⟩
      have BA : Hid (Below W.heap.size W wa) := by rw [hwa]; exact HBR.out.alloc HBR.out.size _
      have NA : Hid (Ns W.heap.size wa (.slice av k cv) ((st.map Sx.f).take k)) := by rw [hwa]; exact HN.out.later (bAl _ _)
      have ex : wa.heap[wr.heap.size]? = some (.cells #[.int .i64 s.f, .slice ae s.l.length ce] 75 (0, 0)) := by rw [hwa]; exact heap_alloc_new wr _
      have x0 := cell_blk (j := 0) ex rfl
      have HWA := hid hwa
      clear hcl q1 q2 hev hs e hl3 hwa ex
      go_upto_region 7 with fail
      rw [← HWA.out]
      go_wp2_with (at_builtin; refine wpList_num rfl _ _ rfl (k := s.f) NA.out HL3.out BA.out.size rfl rfl ?_; intro v' w3 hN hS; obtain ⟨av', cv', rfl⟩ := hN.out.slice)
      go_roundg (st.length - (k + 1))
      case measure => omega
      case rel =>
        have lk : ((st.map Sx.f).take k ++ [s.f]).length = k + 1 := by simp; omega
        refine ⟨k + 1, av', cv', by omega, rfl, by go_num, by first | rfl | rw [lk], ?_, ?_⟩
        · show Ns _ _ _ _
          have := hN.out
          rw [lk] at this
          rw [TK.out]
          exact this
        · exact BA.out.trans (hS.out.below (fun x hx => (NA.out.typ hx).1) BA.out.size)
    · obtain rfl : k = st.length := by omega
      have hki : ¬ (st.length : Int) < (st.length : Int) := by omega
      have R : Hid (Ns W.heap.size wr (.slice av st.length cv) (st.map Sx.f)) := by
        show Ns _ _ _ _
        have := HN.out
        rwa [List.take_of_length_le (by simp)] at this
      go_wp2_with fail
      go_ret
      exact ⟨_, rfl, R.out, HBR.out⟩
end
end Go.Proofs.YtnbgjbdbbmpoaaaDoor.Jo
