/- A journal: Since, Back. -/
import Derived.Test.YtnbgjbdbbmpoaaaDoorJoJq
namespace Go.Proofs.YtnbgjbdbbmpoaaaDoor.Jo
open Go.RowKit Go.Shelf Go.Maps
/-- A journal whose box may name another row. -/
structure Jw (B : Nat) (W : World) (jb : Nat) (b2 mv sv : Value) (most : Nat) (st : List Sx) : Prop where
  box : W.heap[jb]? = some (.cells #[.int .i64 (most : Int), .int .i64 (tot st : Int), b2, mv] 68 (0, 0))
  row : Lie W 75 2 sv st.length (sCells st)
  ents : ∀ s ∈ st, Us B W s.ev s.l
  apart : (st.filterMap fun s => s.ev.ownBlock).Nodup
  up : (st.map Sx.f).Pairwise (· < ·)
  rng : ∀ s ∈ st, 0 ≤ s.f ∧ s.f ≤ 1073741824
  good : ∀ s ∈ st, ∀ u ∈ s.l, u.ok ∧ 1 ≤ u.k ∧ u.k ≤ 9 ∧ u.ps.length ≤ 1000
  few : tot st ≤ most ∧ most ≤ 65536
  slow : ∀ k, sv.ownBlock = some k → B ≤ k
theorem Jw.ne_row {B : Nat} {W : World} {jb : Nat} {b2 mv sv : Value} {most : Nat} {st : List Sx} (h : Jw B W jb b2 mv sv most st) {k : Nat} (hk : sv.ownBlock = some k) : k ≠ jb := by
  obtain ⟨cur, hc⟩ := h.row.typ hk
  rintro rfl
  rw [h.box] at hc
  simp at hc
theorem Jw.lt {B : Nat} {W : World} {jb : Nat} {b2 mv sv : Value} {most : Nat} {st : List Sx} (h : Jw B W jb b2 mv sv most st) : jb < W.heap.size := (Array.getElem?_eq_some_iff.1 h.box).1
theorem own_lower {W : World} {B B' : Nat} {e : TypeId} {sz : Nat} {v : Value} {n : Nat} {xs : List Value} (h : W.ownsRow B e sz v n xs) (hB : B' ≤ B) : W.ownsRow B' e sz v n xs :=
  ⟨h.1, h.2.imp id fun ⟨g, cap, cur, h1, h2, h3⟩ => ⟨g, cap, cur, h1, Nat.le_trans hB h2, h3⟩⟩
theorem Us.lower {W : World} {B B' : Nat} {v : Value} {l : List Ue} (h : Us B W v l) (hB : B' ≤ B) : Us B' W v l := ⟨own_lower h.1 hB, fun u hu => (h.2 u hu).lower hB⟩
theorem below_lt {st : List Sx} {x : Int} (h : (st.map Sx.f).Pairwise (· < ·)) (hm : markedB st x = true) : ∃ s, st[belowN st x]? = some s ∧ s.f = x ∧ (∀ t ∈ st.take (belowN st x), t.f < x) := by
  obtain ⟨s, hs, e⟩ := List.any_eq_true.1 hm
  obtain ⟨i, hi, rfl⟩ := List.getElem_of_mem hs
  have e' : st[i].f = x := by simpa using e
  have h1 : ∀ j s, j < i → st[j]? = some s → s.f < x := fun j s hj hs => by
    have := up_lt h hs (List.getElem?_eq_getElem hi) hj
    omega
  have q : belowN st x = i := below_at (Nat.le_of_lt hi) h1 (fun j s hj hs => by
    by_cases e2 : i = j
    · subst e2; rw [List.getElem?_eq_getElem hi] at hs; cases hs; omega
    · have := up_lt h (List.getElem?_eq_getElem hi) hs (by omega)
      omega)
  rw [q]
  refine ⟨_, List.getElem?_eq_getElem hi, e', fun t ht => ?_⟩
  obtain ⟨j, hj, rfl⟩ := List.getElem_of_mem ht
  have hj2 : j < i := by simp at hj; omega
  rw [List.getElem_take]
  exact h1 j _ hj2 (List.getElem?_eq_getElem (by omega))
theorem acc_len (t : List Sx) : (acc t).length = tot t := by
  unfold acc tot
  rw [List.length_map, List.length_flatten, List.map_map, List.map_reverse]
  rw [show (List.length ∘ fun s : Sx => s.l.reverse) = fun s => s.l.length by funext s; simp]
  exact List.sum_reverse _
theorem setCells_far {b : Nat} {e : TypeId} {vs : List Value} {o : Nat} {w : World} {cs cs' : Array Value} (h : w.heap[b]? = some (.cells cs e (0, 0))) (h1 : (w.setCells b o vs).heap[b]? = some (.cells cs' e (0, 0))) (j : Nat) (hj : o + vs.length ≤ j) : cs'[j]? = cs[j]? := by
  have q := World.cell?_setCells_out b vs o w ⟨b, j, none⟩ (fun _ _ => .inr hj)
  rw [cell_of_row _ b j cs' e (0, 0) h1, cell_of_row _ b j cs e (0, 0) h] at q
  exact q
theorem zeroStr (w : World) : (zeroValue 75).run Tryd.prog w = .ok (.agg #[.int .i64 0, .slice none 0 0]) w := by kernel_rfl
theorem zc_len (k : Nat) : (Builtin.zeroCells (Value.cells (.agg #[.int .i64 0, .slice none 0 0])) k).toList.length = k * 2 := by
  rw [Array.length_toList, size_zeroCells]
  rfl
theorem zc_one (k : Nat) : ∀ u ∈ (Builtin.zeroCells (Value.cells (.agg #[.int .i64 0, .slice none 0 0])) k).toList, u.oneCell' = true := by
  intro u hu
  have : u = .int .i64 0 ∨ u = .slice none 0 0 := by
    simp [Builtin.zeroCells, Value.cells] at hu
    obtain ⟨a, -, rfl⟩ := hu
    have q : a % 2 = 0 ∨ a % 2 = 1 := by omega
    rcases q with q | q <;> rw [q] <;> simp
  rcases this with rfl | rfl <;> rfl
/-- clear of a row of stretches. -/
theorem run_clr {W : World} {g o k c : Nat} {cs : Array Value} (h : W.heap[g]? = some (.cells cs 75 (0, 0))) (hf : o + k * 2 ≤ cs.size) :
    ∃ w', (∀ ty, (Builtin.clear_ #[65] ty #[.slice (some ⟨g, o, none⟩) k c]).run Tryd.prog W = .ok (.tuple #[]) w') ∧ St (fun x => x = g) W w' ∧ ∃ cs', w'.heap[g]? = some (.cells cs' 75 (0, 0)) ∧ cs'.size = cs.size ∧ (∀ j, j < o → cs'[j]? = cs[j]?) ∧ (∀ j, o + k * 2 ≤ j → cs'[j]? = cs[j]?) := by
  cases k with
  | zero => exact ⟨W, fun ty => by simp [Builtin.clear_, run_underlying Tryd.underlying65], St.refl _ _, cs, h, rfl, fun _ _ => rfl, fun _ _ => rfl⟩
  | succ k =>
  have hl := zc_len (k + 1)
  have hst := run_storeCells_cells (P := Tryd.prog) g o (Builtin.zeroCells (Value.cells (.agg #[.int .i64 0, .slice none 0 0])) (k + 1)).toList 0 W (fun j hj => by
    rw [Nat.add_zero, cell_of_row W g _ cs _ (0, 0) h, Array.getElem?_eq_getElem (by omega)]; rfl) (fun j hj => blk_free h _) (zc_one (k + 1))
  rw [Nat.add_zero] at hst
  obtain ⟨cs', a1, a2, a3, -⟩ := setCells_at (vs := (Builtin.zeroCells (Value.cells (.agg #[.int .i64 0, .slice none 0 0])) (k + 1)).toList) (o := o) h (by omega)
  refine ⟨_, fun ty => ?_, setCells_st _ _ _, cs', a1, a2, a3, fun j hj => setCells_far h a1 j (by omega)⟩
  simp [Builtin.clear_, run_underlying Tryd.underlying65, hst]
theorem wpList_clr {ops : Array Oper} {rest : List Oper} {o : Oper} {a : Act} {Q : Exit → Act → World → Prop} (hgd : o.guard = none) (s : Operand)
    (ho : o.op = .call { callee := .builtin .clear, args := #[s], argTypes := #[65] }) {v : Value} {w w' : World} (hs : a.eval s = v) (hrun : ∀ ty, (Builtin.clear_ #[65] ty #[v]).run Tryd.prog w = .ok (.tuple #[]) w') (h : wpList Tryd.prog ops Q rest (a.put o.dst (.tuple #[])) w') : wpList Tryd.prog ops Q (o :: rest) a w := by
  refine wpList_plain hgd fun K hK' => ?_
  unfold Oper.wp
  simp [execOp, ho, resolve, invoke, builtin, hs, hrun, Result.andThen]
  exact hK' _ _ h
section
variable {B : Nat} {W W' : World} {jb : Nat} {sv mv : Value} {most : Nat} {st : List Sx} {Ad : Nat → Addr}
set_option maxHeartbeats 1600000 in
theorem since_bad (h : Jn B W jb sv mv most st) (hE : Env8 W Ad) (x : Int) (hm : markedB st x = false) :
    Calls Tryd.prog 16 #[.pointer (some ⟨jb, 0, none⟩), .int .i64 x] W fun e W' => ∃ t q, e = .returned (.tuple #[.slice none 0 0, .iface t q]) ∧ Err Ad W' (.iface t q) 16 1 ∧ Below W.heap.size W W' := by
  have C := hid (find_bad h hE x hm)
  clear h hm hE
  go_enter Tryd.func16, Tryd.ntmps16
  go_wp2_with fail
  refine C.out.mono ?_
  rintro e w1 ⟨rfl, hb⟩
  have HB := hid hb
  have AC := hid (fun str => at_err Ad str _ 16 0 w1 (err_leaf Ad _ 16 (by decide)))
  clear hb C
  go_wp2_with fail
  refine (AC.out _).mono ?_
  rintro e w2 ⟨t, q, rfl, hv, hb⟩
  have HV := hid hv
  have HB2 := hid (HB.out.trans (hb.mono HB.out.size))
  clear hv hb AC
  go_wp2_with fail
  go_ret2
  exact ⟨t, q, rfl, HV.out, HB2.out⟩
set_option maxHeartbeats 1600000 in
theorem since_nil (hE : Env8 W Ad) (x : Int) :
    Calls Tryd.prog 16 #[.pointer none, .int .i64 x] W fun e W' => ∃ t q, e = .returned (.tuple #[.slice none 0 0, .iface t q]) ∧ Err Ad W' (.iface t q) 2 1 ∧ Below W.heap.size W W' := by
  have C := hid (find_nil hE x)
  clear hE
  go_enter Tryd.func16, Tryd.ntmps16
  go_wp2_with fail
  refine C.out.mono ?_
  rintro e w1 ⟨rfl, hb⟩
  have HB := hid hb
  have AC := hid (fun str => at_err Ad str _ 2 0 w1 (err_leaf Ad _ 2 (by decide)))
  clear hb C
  go_wp2_with fail
  refine (AC.out _).mono ?_
  rintro e w2 ⟨t, q, rfl, hv, hb⟩
  have HV := hid hv
  have HB2 := hid (HB.out.trans (hb.mono HB.out.size))
  clear hv hb AC
  go_wp2_with fail
  go_ret2
  exact ⟨t, q, rfl, HV.out, HB2.out⟩
set_option maxHeartbeats 1600000 in
theorem back_bad (h : Jn B W jb sv mv most st) (hE : Env8 W Ad) (x : Int) (hm : markedB st x = false) :
    Calls Tryd.prog 18 #[.pointer (some ⟨jb, 0, none⟩), .int .i64 x] W fun e W' => ∃ t q, e = .returned (.tuple #[.slice none 0 0, .iface t q]) ∧ Err Ad W' (.iface t q) 16 1 ∧ Below W.heap.size W W' := by
  have C := hid (find_bad h hE x hm)
  clear h hm hE
  go_enter Tryd.func18, Tryd.ntmps18
  go_wp2_with fail
  refine C.out.mono ?_
  rintro e w1 ⟨rfl, hb⟩
  have HB := hid hb
  have AC := hid (fun str => at_err Ad str _ 16 0 w1 (err_leaf Ad _ 16 (by decide)))
  clear hb C
  go_wp2_with fail
  refine (AC.out _).mono ?_
  rintro e w2 ⟨t, q, rfl, hv, hb⟩
  have HV := hid hv
  have HB2 := hid (HB.out.trans (hb.mono HB.out.size))
  clear hv hb AC
  go_wp2_with fail
  go_ret2
  exact ⟨t, q, rfl, HV.out, HB2.out⟩
set_option maxHeartbeats 1600000 in
theorem back_nil (hE : Env8 W Ad) (x : Int) :
    Calls Tryd.prog 18 #[.pointer none, .int .i64 x] W fun e W' => ∃ t q, e = .returned (.tuple #[.slice none 0 0, .iface t q]) ∧ Err Ad W' (.iface t q) 2 1 ∧ Below W.heap.size W W' := by
  have C := hid (find_nil hE x)
  clear hE
  go_enter Tryd.func18, Tryd.ntmps18
  go_wp2_with fail
  refine C.out.mono ?_
  rintro e w1 ⟨rfl, hb⟩
  have HB := hid hb
  have AC := hid (fun str => at_err Ad str _ 2 0 w1 (err_leaf Ad _ 2 (by decide)))
  clear hb C
  go_wp2_with fail
  refine (AC.out _).mono ?_
  rintro e w2 ⟨t, q, rfl, hv, hb⟩
  have HV := hid hv
  have HB2 := hid (HB.out.trans (hb.mono HB.out.size))
  clear hv hb AC
  go_wp2_with fail
  go_ret2
  exact ⟨t, q, rfl, HV.out, HB2.out⟩
set_option maxHeartbeats 1600000 in
theorem since_ok (h : Jn B W jb sv mv most st) (hst : st.length ≤ 1000000) (x : Int) (hm : markedB st x = true) :
    Calls Tryd.prog 16 #[.pointer (some ⟨jb, 0, none⟩), .int .i64 x] W fun e W' => ∃ lv l, e = .returned (.tuple #[lv, .nilIface]) ∧ Us W.heap.size W' lv l ∧ l.map Ue.bare = acc (st.drop (belowN st x)) ∧ Below W.heap.size W W' := by
  obtain ⟨s, hs, -⟩ := below_lt h.up hm
  have hlt := (List.getElem?_eq_some_iff.1 hs).1
  have C := hid (find_ok h x hm)
  have D := hid (fun W' (hb : Below W.heap.size W W') => behind_any (h.later hb) (belowN st x) hlt hst)
  generalize belowN st x = m at C D
  clear h hm hs hlt
  go_enter Tryd.func16, Tryd.ntmps16
  go_wp2_with fail
  refine C.out.mono ?_
  rintro e w1 ⟨rfl, hb⟩
  have HB := hid hb
  clear hb C
  go_wp2_with fail
  refine (D.out _ HB.out).mono ?_
  rintro e w2 ⟨lv, l, rfl, hu, hl, hb⟩
  obtain ⟨a, c, rfl⟩ := hu.form
  have HU := hid hu
  have HL := hid hl
  have HB2 := hid (HB.out.trans (hb.mono HB.out.size))
  have HZ := hid HB.out.size
  clear hu hl hb D
  go_wp2_with fail
  go_ret2
  refine ⟨_, l, rfl, HU.out.lower HZ.out, HL.out, HB2.out⟩
/-- What a mark leaves. -/
theorem Jw.mark {b2 sv' : Value} {w1 w2 : World} {x : Int} (h : Jw B W jb b2 mv sv most st) (ha : aboveB st x = true) (h0 : 0 ≤ x) (h1 : x ≤ 1073741824) (hB : B ≤ W.heap.size)
    (l1 : Lie w1 75 2 sv' (st.length + 1) (sCells (st ++ [⟨x, .slice none 0 0, []⟩]))) (s1 : St (fun k => sv.ownBlock = some k) W w1) (n1 : ∀ k, sv'.ownBlock = some k → sv.ownBlock = some k ∨ W.heap.size ≤ k)
    (e2 : w2 = ((w1.setCell ⟨jb, 2, none⟩ sv').setCell ⟨jb, 3, none⟩ (.map (some w1.heap.size))).alloc (.map #[] 0)) :
    Jn B w2 jb sv' (.map (some w1.heap.size)) most (st ++ [⟨x, .slice none 0 0, []⟩]) ∧ St (fun k => k = jb ∨ sv.ownBlock = some k) W w2 := by
  have hjn : ¬ sv.ownBlock = some jb := fun q => h.ne_row q rfl
  have b1 := s1.at h.box hjn
  have b2 := heap_setCell_same w1 jb 2 _ _ sv' b1
  have t2 : St (fun k => k = jb) w1 (w1.setCell ⟨jb, 2, none⟩ sv') := St.setCell _ rfl
  have b3 := heap_setCell_same _ jb 3 _ _ (.map (some w1.heap.size)) b2
  have t3 : St (fun k => k = jb) (w1.setCell ⟨jb, 2, none⟩ sv') ((w1.setCell ⟨jb, 2, none⟩ sv').setCell ⟨jb, 3, none⟩ (.map (some w1.heap.size))) := St.setCell _ rfl
  have bb := bAl ((w1.setCell ⟨jb, 2, none⟩ sv').setCell ⟨jb, 3, none⟩ (.map (some w1.heap.size))) (.map #[] 0)
  have b4 := blk_seen bb (Nat.le_refl _) b3
  have t4 : St (fun k => k = jb) ((w1.setCell ⟨jb, 2, none⟩ sv').setCell ⟨jb, 3, none⟩ (.map (some w1.heap.size))) w2 := by rw [e2]; exact St.of_below bb
  have t : St (fun k => k = jb) w1 w2 := (t2.trans t3 fun _ _ q => q).trans t4 fun _ _ q => q
  have hall : St (fun k => k = jb ∨ sv.ownBlock = some k) W w2 := by
    have s1' : St (fun k => k = jb ∨ sv.ownBlock = some k) W w1 := ⟨s1.os, s1.tape, s1.output, s1.size, fun k hk hn => s1.block k hk fun q => hn (.inr q)⟩
    exact s1'.trans t fun _ _ q => .inl q
  have hm : Mt w2 w1.heap.size [] := by
    have m := mt_made ((w1.setCell ⟨jb, 2, none⟩ sv').setCell ⟨jb, 3, none⟩ (.map (some w1.heap.size)))
    rw [show ((w1.setCell ⟨jb, 2, none⟩ sv').setCell ⟨jb, 3, none⟩ (.map (some w1.heap.size))).heap.size = w1.heap.size by simp] at m
    rw [e2]
    exact m
  refine ⟨⟨?_, ?_, ?_, ?_, ?_, up_snoc h.up ha, ?_, ?_, ?_, fun k hk => (n1 k hk).elim (h.slow k) fun q => Nat.le_trans hB q, fun k q => by
    have e : w1.heap.size = k := by simpa using q
    have := s1.size
    omega⟩, hall⟩
  · rw [e2, b4, tot_snoc]
    simp
  · rw [List.length_append]
    refine l1.kept t fun k hk => ?_
    rintro rfl
    rcases n1 k hk with q | q
    · exact hjn q
    · have := h.lt
      omega
  · intro s hs
    rcases List.mem_append.1 hs with hs | hs
    · have hu := h.ents s hs
      refine hu.kept hall (fun k hk => ?_) fun u hm k hk => ?_
      · obtain ⟨-, cur, hc⟩ := hu.typ hk
        rintro (rfl | q)
        · rw [h.box] at hc; simp at hc
        · obtain ⟨c2, q2⟩ := h.row.typ q
          rw [q2] at hc; simp at hc
      · obtain ⟨cur, hc⟩ := (hu.2 u hm).at hk
        rintro (rfl | q)
        · rw [h.box] at hc; simp at hc
        · obtain ⟨c2, q2⟩ := h.row.typ q
          rw [q2] at hc; simp at hc
    · simp at hs
      subst hs
      exact us_nil _ _
  · rw [List.filterMap_append]
    simpa [Value.ownBlock] using h.apart
  · intro a s e
    obtain ⟨-, e2⟩ := List.append_inj' e rfl
    simp at e2
    subst e2
    exact ⟨_, rfl, hm⟩
  · intro s hs
    rcases List.mem_append.1 hs with hs | hs
    · exact h.rng s hs
    · simp at hs
      subst hs
      exact ⟨h0, h1⟩
  · intro s hs
    rcases List.mem_append.1 hs with hs | hs
    · exact h.good s hs
    · simp at hs
      subst hs
      simp
  · rw [tot_snoc]
    exact h.few
/-- What is left of a journal ahead of a frame that is marked. -/
theorem Jn.cut {g off cap : Nat} {w1 w2 w3 : World} {n : Nat} {cs : Array Value} (h : Jn B W jb (.slice (some ⟨g, off, none⟩) st.length cap) mv most st) (hn : n ≤ st.length) (hb : Below W.heap.size W w1)
    (e2 : w2 = w1.setCell ⟨jb, 1, none⟩ (.int .i64 ((tot (st.take n) : Nat) : Int))) (s3 : St (fun k => k = g) w2 w3) (h3 : w3.heap[g]? = some (.cells cs 75 (0, 0))) (hz : ∀ c2, w2.heap[g]? = some (.cells c2 75 (0, 0)) → cs.size = c2.size ∧ ∀ j, j < off + n * 2 → cs[j]? = c2[j]?) :
    Jw B w3 jb (.slice (some ⟨g, off, none⟩) st.length cap) mv (.slice (some ⟨g, off, none⟩) n cap) most (st.take n) ∧ St (fun k => k = jb ∨ k = g) W w3 := by
  have j1 := h.later hb
  have hgr : (Value.slice (some ⟨g, off, none⟩) st.length cap).ownBlock = some g := rfl
  have hgj := j1.ne_row hgr
  have s2 : St (fun k => k = jb) w1 w2 := by rw [e2]; exact St.setCell _ rfl
  have b2 := heap_setCell_same w1 jb 1 _ _ (.int .i64 ((tot (st.take n) : Nat) : Int)) j1.box
  rw [← e2] at b2
  have b3 := s3.at b2 (fun q => hgj q.symm)
  have s13 : St (fun k => k = jb ∨ k = g) w1 w3 := by
    have q : St (fun k => k = jb ∨ k = g) w1 w2 := ⟨s2.os, s2.tape, s2.output, s2.size, fun k hk m => s2.block k hk fun e => m (.inl e)⟩
    exact q.trans s3 fun _ _ e => .inr e
  have hl : (st.take n).length = n := by simp; omega
  have sub : ∀ s ∈ st.take n, s ∈ st := fun s hs => List.mem_of_mem_take hs
  have htl : tot (st.take n) ≤ tot st := by
    have := tot_app (st.take n) (st.drop n)
    rw [List.take_append_drop] at this
    omega
  refine ⟨⟨by simpa using b3, ?_, fun s hs => ?_, ?_, ?_, fun s hs => h.rng s (sub s hs), fun s hs => h.good s (sub s hs), ⟨Nat.le_trans htl h.few.1, h.few.2⟩, h.slow⟩, (St.of_below (S := fun k => k = jb ∨ k = g) hb).trans s13 fun _ _ q => q⟩
  · rw [hl]
    have r2 := (j1.row.kept s2 fun k hk q => by
      obtain rfl : g = k := by simpa [Value.ownBlock] using hk
      exact hgj q).low n hn
    rw [sCells_take] at r2
    refine ⟨r2.1, .inr ?_⟩
    obtain ⟨g2, off2, cap2, cur, q, q2, q3, q4, q5, q6⟩ := r2.2.resolve_left (by simp)
    obtain ⟨rfl, rfl, rfl⟩ : g = g2 ∧ off = off2 ∧ cap = cap2 := by simpa [and_assoc] using q
    obtain ⟨z1, z2⟩ := hz cur q2
    exact ⟨g, off, cap, cs, rfl, h3, q3, q4, by omega, fun j hj => by rw [z2 _ (by omega)]; exact q6 j hj⟩
  · have us := j1.ents s (sub s hs)
    obtain ⟨cg, tg⟩ := j1.row.typ hgr
    refine us.kept s13 (fun k hk => ?_) fun u hu k hk => ?_
    · obtain ⟨-, c, q⟩ := us.typ hk
      rintro (rfl | rfl)
      · rw [j1.box] at q; simp at q
      · rw [tg] at q; simp at q
    · obtain ⟨c, q⟩ := (us.2 u hu).at hk
      rintro (rfl | rfl)
      · rw [j1.box] at q; simp at q
      · rw [tg] at q; simp at q
  · exact h.apart.sublist ((List.take_sublist n st).filterMap _)
  · exact h.up.sublist ((List.take_sublist n st).map _)
theorem above_take {x : Int} (h : (st.map Sx.f).Pairwise (· < ·)) (hm : markedB st x = true) : aboveB (st.take (belowN st x)) x = true := by
  obtain ⟨s, hs, -, ha⟩ := below_lt h hm
  unfold aboveB
  cases q : (st.take (belowN st x)).getLast? with
  | none => rfl
  | some t => simpa using ha t (List.mem_of_getLast? q)
set_option maxHeartbeats 3200000 in
set_option maxRecDepth 100000 in
theorem back_ok (h : Jn B W jb sv mv most st) (hB : B ≤ W.heap.size) (hst : st.length ≤ 1000000) (x : Int) (hm : markedB st x = true) :
    Calls Tryd.prog 18 #[.pointer (some ⟨jb, 0, none⟩), .int .i64 x] W fun e W' => ∃ lv l, e = .returned (.tuple #[lv, .nilIface]) ∧ Us W.heap.size W' lv l ∧ l.map Ue.bare = acc (st.drop (belowN st x)) ∧ ∃ sv' mv', Jn B W' jb sv' mv' most (st.take (belowN st x) ++ [⟨x, .slice none 0 0, []⟩]) ∧ St (fun k => k = jb ∨ sv.ownBlock = some k) W W' := by
  obtain ⟨s, hs, hsx, -⟩ := below_lt h.up hm
  have hlt := (List.getElem?_eq_some_iff.1 hs).1
  have hrx := h.rng s (List.mem_of_getElem? hs)
  rw [hsx] at hrx
  have hab := above_take h.up hm
  have C := hid (find_ok h x hm)
  have D := hid (fun W' (hb : Below W.heap.size W W') => behind_any (h.later hb) (belowN st x) hlt hst)
  obtain ⟨g, off, cap, rfl, hcap, hcm, -⟩ := h.row.pos (by omega)
  have CU := hid (fun w1 w2 w3 cs => Jn.cut (w1 := w1) (w2 := w2) (w3 := w3) (cs := cs) (n := belowN st x) h (Nat.le_of_lt hlt))
  have HH := hid h
  have hsum : tot st = tot (st.take (belowN st x)) + tot (st.drop (belowN st x)) := by
    rw [← tot_app, List.take_append_drop]
  have hfew : tot st ≤ 65536 := Nat.le_trans h.few.1 h.few.2
  have hlm : (st.take (belowN st x)).length = belowN st x := by simp; omega
  generalize hmm : belowN st x = m at C D CU hsum hlt hab hlm ⊢
  have hmi : (m : Int) < (st.length : Int) := by omega
  have hsi : (st.length : Int) ≤ 1000000 := by omega
  have hci : (st.length : Int) ≤ (cap : Int) := by omega
  have hmx : (cap : Int) ≤ 9223372036854775807 := by unfold maxLen at hcm; omega
  have HLM := hid hlm
  have HSU := hid hsum
  have HAB := hid hab
  have HRX := hid hrx
  have HBB := hid hB
  have hmle : m ≤ st.length := Nat.le_of_lt hlt
  have hmk := run_makeMap (P := Tryd.prog) 66
  clear h hm hs hlt hmm hsx hrx hab hsum hlm hB
  go_enter Tryd.func18, Tryd.ntmps18
  go_wp2_with fail
  refine C.out.mono ?_
  rintro e w0 ⟨rfl, hb⟩
  have HB := hid hb
  clear hb C
  go_wp2_with fail
  refine (D.out _ HB.out).mono ?_
  rintro e w1 ⟨lv, l, rfl, hu, hl, hb⟩
  obtain ⟨a, c, rfl⟩ := hu.form
  have hz : tot (st.drop m) = l.length := by
    have := congrArg List.length hl
    rw [acc_len, List.length_map] at this
    exact this.symm
  have HB1 := hid (HB.out.trans (hb.mono HB.out.size))
  have HU := hid (hu.lower HB.out.size)
  have HL := hid hl
  have hlb : (l.length : Int) ≤ 65536 := by have := HSU.out; omega
  have htb : (tot st : Int) ≤ 65536 := by omega
  have ev : (tot st : Int) - (l.length : Int) = ((tot (st.take m) : Nat) : Int) := by have := HSU.out; omega
  have EV := hid ev
  have j1 := HH.out.later HB1.out
  have d1 := j1.c1
  have d2 := j1.c2
  have f1 := blk_free j1.box 1
  have hj1 := j1.lt
  obtain ⟨cg, tg⟩ := j1.row.typ (k := g) rfl
  have hgj : ¬ g = jb := fun q => j1.ne_row (k := g) rfl q
  have hjg : ¬ jb = g := fun q => hgj q.symm
  obtain ⟨w2, hw2⟩ : ∃ w2, w2 = w1.setCell ⟨jb, 1, none⟩ (.int .i64 ((tot (st.take m) : Nat) : Int)) := ⟨_, rfl⟩
  have tg2 : w2.heap[g]? = some (.cells cg 75 (0, 0)) := by
    have s2 : St (fun k => k = jb) w1 w2 := by rw [hw2]; exact St.setCell _ rfl
    exact s2.at tg hgj
  have hfit : off + m * 2 + (st.length - m) * 2 ≤ cg.size := by
    obtain ⟨g2, off2, cap2, cur, q, q2, q3, q4, q5, -⟩ := j1.row.2.resolve_left (by simp)
    obtain ⟨rfl, rfl, rfl⟩ : g = g2 ∧ off = off2 ∧ cap = cap2 := by simpa [and_assoc] using q
    rw [tg] at q2
    cases q2
    omega
  obtain ⟨w3, hr3, s3, cs3, t3, z3, k3, -⟩ := run_clr (c := cap - m) tg2 hfit
  obtain ⟨JW, S03⟩ := CU.out w1 w2 w3 cs3 HB1.out hw2 s3 t3 (fun c2 q => by
    rw [tg2] at q
    cases q
    exact ⟨z3, k3⟩)
  have HJW := hid JW
  have HS03 := hid S03
  have HRUN := hid hr3
  have HW2 := hid hw2
  have e2a : w2.cell? ⟨jb, 2, none⟩ = some (.slice (some ⟨g, off, none⟩) st.length cap) := by
    rw [hw2, World.cell?_setCell_other _ _ _ _ (by intro q; simp at q)]
    exact d2
  have e3 : w3.cell? ⟨jb, 2, none⟩ = some (.slice (some ⟨g, off, none⟩) st.length cap) := cell_blk JW.box rfl
  have hz3 : Hid ((.slice a l.length c : Value).ownBlock.isNone = true ∨ True) := .inr trivial
  have HU3 : Hid (Us W.heap.size w3 (.slice a l.length c) l) := by
    refine HU.out.kept (T := fun k => k = jb ∨ k = g) ?_ (fun k hk => ?_) fun u hu' k hk => ?_
    · have s2 : St (fun k => k = jb) w1 w2 := by rw [hw2]; exact St.setCell _ rfl
      have q : St (fun k => k = jb ∨ k = g) w1 w2 := ⟨s2.os, s2.tape, s2.output, s2.size, fun k hk m => s2.block k hk fun e => m (.inl e)⟩
      exact q.trans s3 fun _ _ e => .inr e
    · have q1 := (HU.out.typ hk).1
      have q2 := HH.out.lt
      have q3 := HH.out.row.lt g rfl
      rintro (rfl | rfl) <;> omega
    · have q1 := ((HU.out.2 u hu').lt k hk).1
      have q2 := HH.out.lt
      have q3 := HH.out.row.lt g rfl
      rintro (rfl | rfl) <;> omega
  have LR : Hid (Lie w3 75 2 (.slice (some ⟨g, off, none⟩) m cap) (st.take m).length (sCells (st.take m))) := JW.row
  have hlt2 : (st.take m).length ≤ 1073741825 := by rw [HLM.out]; omega
  have HLT := hid hlt2
  have BX := hid JW.box
  clear hu hl hb D hz ev j1 tg tg2 hfit hr3 s3 t3 z3 k3 JW S03 hw2 HU hlt2
  go_upto_region 6 with fail
  rw [EV.out, ← HW2.out]
  clear d1 d2 f1
  have hrr := HRUN.out
  go_upto_region 7 with fail
  clear e2a HRUN HW2 hrr
  go_wp2_with (at_builtin; refine wpList_str rfl _ _ rfl (l := st.take m) (f := x) LR.out HLT.out rfl rfl ?_; intro v' w5 hL hS hN; obtain ⟨a', c', rfl⟩ := hL.out.form; have b1 := hS.out.at BX.out (fun q => hgj (by simpa [Value.ownBlock] using q)); have f2 := blk_free b1 2; have f3 : ∀ u, (w5.setCell ⟨jb, 2, none⟩ u).frozen? ⟨jb, 3, none⟩ = false := fun u => blk_free (heap_setCell_same w5 jb 2 _ _ u b1) 3; have d2 : w5.cell? ⟨jb, 2, none⟩ = some (.slice (some ⟨g, off, none⟩) st.length cap) := cell_blk b1 rfl; have d3 : w5.cell? ⟨jb, 3, none⟩ = some mv := cell_blk b1 rfl; have hj5 : jb < w5.heap.size := (Array.getElem?_eq_some_iff.1 b1).1; have hj5n : ¬ jb = w5.heap.size := (by omega); clear e3 b1)
  go_ret2
  obtain ⟨MJ, MS⟩ := HJW.out.mark HAB.out HRX.out.1 HRX.out.2 (Nat.le_trans HBB.out HS03.out.size) hL.out hS.out hN.out rfl
  rw [HLM.out] at MJ MS
  refine ⟨_, l, rfl, ?_, HL.out, _, _, MJ, ?_⟩
  · refine HU3.out.kept MS (fun k hk => ?_) fun u hu' k hk => ?_
    · have q1 := (HU3.out.typ hk).1
      have q2 := HH.out.lt
      have q3 := HH.out.row.lt g rfl
      rintro (rfl | q)
      · omega
      · have : g = k := by simpa [Value.ownBlock] using q
        omega
    · have q1 := ((HU3.out.2 u hu').lt k hk).1
      have q2 := HH.out.lt
      have q3 := HH.out.row.lt g rfl
      rintro (rfl | q)
      · omega
      · have : g = k := by simpa [Value.ownBlock] using q
        omega
  · have q : St (fun k => k = jb ∨ (Value.slice (some ⟨g, off, none⟩) st.length cap).ownBlock = some k) W w3 := ⟨HS03.out.os, HS03.out.tape, HS03.out.output, HS03.out.size, fun k hk m => HS03.out.block k hk fun e => m (e.imp id fun e => by rw [e]; rfl)⟩
    exact q.trans MS fun k _ e => e
end
end Go.Proofs.YtnbgjbdbbmpoaaaDoor.Jo
