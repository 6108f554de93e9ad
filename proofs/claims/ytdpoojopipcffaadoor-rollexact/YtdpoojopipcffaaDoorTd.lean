/- The document's roll: Free of one that is alive. -/
import Derived.Test.YtdpoojopipcffaaDoorTc
namespace Go.Proofs.YtdpoojopipcffaaDoor
open Go.RowKit Go.Shelf Go.Maps
theorem gI_one (l : List Nat) : ∀ u ∈ l.map gI, u.oneCell' = true := by
  intro u hu
  obtain ⟨x, _, rfl⟩ := List.mem_map.1 hu
  rfl
/-- append of a row of numbers onto a row that lies above N, within a region that draws. -/
theorem step_rows {ops : Array Oper} {o : Oper} {a : Act} {K : Act → World → Prop} {Q : Exit → Act → World → Prop} {E : Prop} (hgd : o.guard = none) (s x : Operand)
    (ho : o.op = .call { callee := .builtin .append, args := #[s, x], argTypes := #[53, 53] }) {w2 wc : World} {v : Value} {xs ns : List Nat} {sb sc : Nat} (hb : Below w2.heap.size w2 wc) (hown : wc.ownsRow w2.heap.size 3 1 v xs.length (xs.map gI))
    (hsrc : ∀ j u, (ns.map gI)[j]? = some u → wc.cell? ⟨sb, j, none⟩ = some u) (hl : xs.length + ns.length ≤ 1000) (hs : a.eval s = v) (hx : a.eval x = .slice (some ⟨sb, 0, none⟩) ns.length sc)
    (h : ∀ v' w4, w4.ownsRow w2.heap.size 3 1 v' (xs ++ ns).length ((xs ++ ns).map gI) → Below w2.heap.size w2 w4 → (∀ b, b < wc.heap.size → v.ownBlock ≠ some b → w4.heap[b]? = wc.heap[b]?) → K (a.put o.dst v') w4) :
    if Region.wanted o (yielded ops a.tmps) = true then Oper.wp Tryd.prog o a wc K Q else E := by
  obtain ⟨i0, hi, hz0, hz1, hz2⟩ := info_parts infoInt
  have hw : Region.wanted o (yielded ops a.tmps) = true := by simp [Region.wanted, hgd]
  rw [if_pos hw]
  obtain ⟨v', w', hr, h2, h3, h4, h5⟩ := run_append_own_at (P := Tryd.prog) wc w2.heap.size 53 o.type 3 i0 (.int .i64 0) 1 8 Tryd.underlying53 hi hz0 hz1 hz2 rfl (by decide) v xs.length (xs.map gI) hown ⟨sb, 0, none⟩ ns.length sc (ns.map gI) (by simp) (fun j u hu => by rw [add_at]; exact hsrc j u hu) (gI_one ns) (by unfold maxLen; omega) (by omega) hb.size
  unfold Oper.wp
  simp [execOp, ho, resolve, invoke, builtin, hs, hx, hr, Result.andThen]
  refine h v' w' ?_ (hb.grown h3 hb.size fun k hk => (hown.lt k hk).1) fun b hb' hne => h3.block b hb' (fun e => hne e.symm)
  rw [List.length_append, List.map_append]
  exact h2
theorem one_src {W : World} {b k : Nat} (h : W.heap[b]? = some (.cells #[.int .i64 (k : Int)] 3 (0, 0))) : ∀ j u, ([k].map gI)[j]? = some u → W.cell? ⟨b, j, none⟩ = some u := by
  intro j u hu
  match j, hu with
  | 0, hu => simp at hu; subst hu; exact cell_blk h rfl
  | j + 1, hu => simp at hu
theorem step_rows2 {ops : Array Oper} {o : Oper} {a : Act} {K : Act → World → Prop} {Q : Exit → Act → World → Prop} {E : Prop} (hgd : o.guard = none) (s x : Operand)
    (ho : o.op = .call { callee := .builtin .append, args := #[s, x], argTypes := #[53, 53] }) {w2 wc : World} {v : Value} {xs : List Nat} {k : Nat} {sb sc : Nat} (hb : Below w2.heap.size w2 wc) (hown : wc.ownsRow w2.heap.size 3 1 v xs.length (xs.map gI))
    (hsrc : ∀ j u, ([k].map gI)[j]? = some u → wc.cell? ⟨sb, j, none⟩ = some u) (hl : xs.length + [k].length ≤ 1000) (hs : a.eval s = v) (hx : a.eval x = .slice (some ⟨sb, 0, none⟩) 1 sc)
    (h : ∀ g' cap w4, Hid (w4.ownsRow w2.heap.size 3 1 (.slice (some ⟨g', 0, none⟩) (xs.length + 1) cap) (xs ++ [k]).length ((xs ++ [k]).map gI)) → Hid (Below w2.heap.size w2 w4) → K (a.put o.dst (.slice (some ⟨g', 0, none⟩) (xs.length + 1) cap)) w4) :
    if Region.wanted o (yielded ops a.tmps) = true then Oper.wp Tryd.prog o a wc K Q else E := by
  refine step_rows (ns := [k]) (xs := xs) (w2 := w2) hgd s x ho hb hown hsrc hl hs hx ?_
  intro v' w4 ho4 hb4 _
  obtain ⟨g', cap, rfl, _, _⟩ := World.ownsRow.form ho4 (by simp)
  have e : (xs ++ [k]).length = xs.length + 1 := by simp
  have h0 := h g' cap w4
  rw [← e] at h0
  exact h0 ho4 hb4
theorem RS.freed_is {r : RS} {k : Nat} : (r.freed k).isL = r.isL.set k false := by
  apply List.ext_getElem?
  intro j
  rw [List.getElem?_set]
  have hl : (r.freed k).gens.length = r.gens.length := rfl
  by_cases hj : j < r.gens.length
  · rw [RS.isL_at (r := r.freed k) hj]
    by_cases e : k = j
    · subst e
      simp [RS.isL_len, hj, RS.freed]
    · rw [if_neg e, RS.isL_at hj]
      have : j ≠ k := fun q => e q.symm
      simp [RS.freed, this]
  · have e1 : (r.freed k).isL[j]? = none := List.getElem?_eq_none (by rw [RS.isL_len, hl]; omega)
    have e2 : r.isL[j]? = none := List.getElem?_eq_none (by rw [RS.isL_len]; omega)
    rw [e1, e2]
    split
    · rename_i e; rw [if_neg (by rw [RS.isL_len]; omega)]
    · rfl
/-- What the document's Free leaves. -/
theorem Rr.gone {B : Nat} {w1 w5 : World} {ub gb ib t : Nat} {fv fv' : Value} {r : RS} {k : Nat} {g : Int} (h : Rr B w1 ub gb ib fv t r) (ha : r.aliveB (k : Int) g = true)
    (hb : Below (w1.setCell ⟨ib, k, none⟩ (.bool false)).heap.size (w1.setCell ⟨ib, k, none⟩ (.bool false)) w5)
    (ho : w5.ownsRow w1.heap.size 3 1 fv' (r.free ++ [k]).length ((r.free ++ [k]).map gI)) :
    Rr B (w5.setCell ⟨ub, 2, none⟩ fv') ub gb ib fv' t (r.freed k) ∧ St (Fu ub gb ib fv) w1 (w5.setCell ⟨ub, 2, none⟩ fv') ∧ ∃ x, fv'.ownBlock = some x ∧ w1.heap.size ≤ x := by
  have hz : (w1.setCell ⟨ib, k, none⟩ (.bool false)).heap.size = w1.heap.size := by simp
  have s0 : St (Fu ub gb ib fv) w1 (w1.setCell ⟨ib, k, none⟩ (.bool false)) := St.setCell _ (.inr (.inr (.inl rfl)))
  have l1 : ub < w1.heap.size := (h.lt ub (.inl rfl)).2
  have l2 : gb < w1.heap.size := (h.lt gb (.inr (.inl rfl))).2
  have l3 : ib < w1.heap.size := (h.lt ib (.inr (.inr (.inl rfl)))).2
  obtain ⟨x, cap, hv, hx1, hx2⟩ := World.ownsRow.form ho (by simp)
  have hxv : fv'.ownBlock = some x := by rw [hv]; rfl
  have hnb : ∀ y, fv'.ownBlock = some y → y ≠ ub ∧ y ≠ gb ∧ y ≠ ib := fun y hy => by
    rw [hxv] at hy
    simp at hy
    omega
  have hok : (r.freed k).ok := by have := RS.freed_ok h.ok ha; simpa using this
  have X5 : w5.heap[ub]? = _ := (hb.block ub (by omega)).trans ((Below.heap_setCell _ _ _ _ h.ne_ui).trans h.box)
  have G5 : w5.heap[gb]? = _ := (hb.block gb (by omega)).trans ((Below.heap_setCell _ _ _ _ h.ne_gi).trans h.gens)
  have I5 : w5.heap[ib]? = _ := (hb.block ib (by omega)).trans (heap_setCell_same _ ib k _ 4 _ h.isb)
  refine ⟨⟨?_, ?_, ?_, ?_, hok, h.small, h.old, h.low, fun e => (hnb gb e).2.1 rfl, fun _ => ⟨x, hxv⟩⟩, ?_, x, hxv, hx1⟩
  · exact heap_setCell_same _ ub 2 _ 58 _ X5
  · exact (Below.heap_setCell _ _ _ _ (fun e => h.ne_ug e.symm)).trans G5
  · rw [Below.heap_setCell _ _ _ _ (fun e => h.ne_ui e.symm), I5, bools_set, RS.freed_is]
  · have ho' : w5.ownsRow B 3 1 fv' (r.free ++ [k]).length ((r.free ++ [k]).map gI) := by
      refine ⟨ho.1, ?_⟩
      rcases ho.2 with q | ⟨g, cap, cur, q1, q2, q3⟩
      · exact .inl q
      · exact .inr ⟨g, cap, cur, q1, by have := h.low; omega, q3⟩
    exact own_later ho' fun y cur hy hb' => (Below.heap_setCell _ _ _ _ (hnb y hy).1).trans hb'
  · refine (s0.trans (St.of_below (S := Fu ub gb ib fv) hb) fun _ _ q => q).trans (St.setCell (S := Fu ub gb ib fv) (p := ⟨ub, 2, none⟩) fv' (.inl rfl)) fun _ _ q => q
set_option maxHeartbeats 3200000 in
set_option maxRecDepth 100000 in
theorem rfree_alive {B : Nat} {W : World} {ub gb ib t : Nat} {fv : Value} {r : RS} (h : Rr B W ub gb ib fv t r) (k : Nat) (g : Int) (ha : r.aliveB (k : Int) g = true) :
    Calls Tryd.prog 14 #[.pointer (some ⟨ub, 0, none⟩), .agg #[.int .i64 (k : Int), .int .i64 g]] W fun e W' => e = .returned (.int .i64 0) ∧ ∃ fv', Rr B W' ub gb ib fv' t (r.freed k) ∧ (∃ x, fv'.ownBlock = some x ∧ W.heap.size ≤ x) ∧ St (Fu ub gb ib fv) W W' := by
  have BA := hid (bAl W (.cells #[.int .i64 (k : Int), .int .i64 g] 24))
  have AL := hid (ralive_any (h.later BA.out) (k : Int) g)
  rw [ha] at AL
  obtain ⟨fa, fc, rfl⟩ := own_slice h.free
  have hkn : k < r.gens.length := by
    obtain ⟨_, _, _, d⟩ := (RS.aliveB_iff _ _ _).1 ha
    simpa using (List.getElem?_eq_some_iff.1 d).1
  obtain ⟨fb, hfb⟩ : ∃ fb, fa = some ⟨fb, 0, none⟩ := by
    obtain ⟨x, hx⟩ := h.nz (by omega)
    rcases h.free.2 with ⟨q, _⟩ | ⟨g, cap, cur, q, _⟩
    · rw [q] at hx; simp [Value.ownBlock] at hx
    · simp only [Value.slice.injEq, true_and] at q; exact ⟨g, q.1⟩
  subst hfb
  have H := hid h
  have HA := hid ha
  have hn64 : (r.gens.length : Int) ≤ 64 := by have := h.small; omega
  have hki : (k : Int) < (r.gens.length : Int) := by omega
  clear h ha
  go_enter Tryd.func14, Tryd.ntmps14
  go_wp2_with fail
  refine AL.out.mono ?_
  rintro e w1 ⟨rfl, hb⟩
  have HB := hid (BA.out.trans (hb.mono BA.out.size))
  have EB := hid (blk_seen hb (Nat.le_refl _) (heap_alloc_new W (.cells #[.int .i64 (k : Int), .int .i64 g] 24)))
  have H1 := hid (H.out.later HB.out)
  have hWl : W.heap.size < w1.heap.size := (Array.getElem?_eq_some_iff.1 EB.out).1
  have c1 := H1.out.c1
  have ci := H1.out.ci hkn
  have fri := blk_free H1.out.isb k
  have e0 := cell_blk EB.out (j := 0) rfl
  have hiW : ib < W.heap.size := (H.out.lt ib (.inr (.inr (.inl rfl)))).2
  have huW : ub < W.heap.size := (H.out.lt ub (.inl rfl)).2
  have n1 : ¬ (ib = ub) := fun e => H1.out.ne_ui e.symm
  have n1' : ¬ (ub = ib) := H1.out.ne_ui
  have n2 : ¬ (ib = W.heap.size) := by omega
  have n2' : ¬ (W.heap.size = ib) := by omega
  generalize decide (k ∉ r.free) = b at *
  clear hb AL
  go_wp2_with fail
  go_region_held3 (fun W' => W'.cell? ⟨ub, 1, none⟩ = some (.slice (some ⟨ib, 0, none⟩) r.gens.length r.gens.length) ∧ W'.cell? ⟨W.heap.size, 0, none⟩ = some (.int .i64 (k : Int))) (go_keep) (fail)
  go_wp2_with fail
  obtain ⟨w2, hw2⟩ : ∃ w2, w2 = (w1.setCell ⟨ib, k, none⟩ (.bool false)).drew := ⟨_, rfl⟩
  rw [← hw2]
  have z2 : w2.heap.size = w1.heap.size := by rw [hw2]; simp
  have X2 : Hid (w2.heap[ub]? = some (.cells #[.slice (some ⟨gb, 0, none⟩) r.gens.length r.gens.length, .slice (some ⟨ib, 0, none⟩) r.gens.length r.gens.length, .slice (some ⟨fb, 0, none⟩) r.free.length fc] 58 (0, 0))) := by
    rw [hw2]; exact (Below.heap_setCell _ _ _ _ H1.out.ne_ui).trans H1.out.box
  have E2 : Hid (w2.heap[W.heap.size]? = some (.cells #[.int .i64 (k : Int), .int .i64 g] 24 (0, 0))) := by
    rw [hw2]; exact (Below.heap_setCell _ _ _ _ n2').trans EB.out
  have F2 : Hid (∀ W', Below w2.heap.size w2 W' → ∀ j u, (r.free.map gI)[j]? = some u → W'.cell? ⟨fb, j, none⟩ = some u) := by
    intro W' hb j u hu
    have hn := (H1.out.ne_f fb rfl).2.2
    have hc := H1.out.free.cells (g := fb) rfl j u hu
    rw [add_at] at hc
    refine seen hb (Nat.le_refl _) ?_
    rw [hw2]
    exact (World.cell?_of_block (a := ⟨fb, j, none⟩) (Below.heap_setCell w1 ⟨ib, k, none⟩ (.bool false) fb hn)).trans hc
  have hfin : Hid (∀ w5 fv', Below w2.heap.size w2 w5 → w5.ownsRow w2.heap.size 3 1 fv' (r.free ++ [k]).length ((r.free ++ [k]).map gI) → Rr B (w5.setCell ⟨ub, 2, none⟩ fv') ub gb ib fv' t (r.freed k) ∧ St (Fu ub gb ib (.slice (some ⟨fb, 0, none⟩) r.free.length fc)) w1 (w5.setCell ⟨ub, 2, none⟩ fv') ∧ ∃ x, fv'.ownBlock = some x ∧ w1.heap.size ≤ x) := by
    intro w5 fv' hb ho
    rw [z2] at ho
    refine H1.out.gone HA.out ?_ ho
    rw [hw2] at hb
    exact ⟨hb.os, hb.tape, hb.output, hb.size, hb.block⟩
  have KE : Hid (∀ W', Below w2.heap.size w2 W' → W'.cell? ⟨W.heap.size, 0, none⟩ = some (.int .i64 (k : Int))) := fun W' hb => cell_blk (blk_seen hb (Nat.le_refl _) E2.out) rfl
  have KU : Hid (∀ W', Below w2.heap.size w2 W' → W'.cell? ⟨ub, 2, none⟩ = some (.slice (some ⟨fb, 0, none⟩) r.free.length fc) ∧ W'.frozen? ⟨ub, 2, none⟩ = false) := fun W' hb => ⟨cell_blk (blk_seen hb (Nat.le_refl _) X2.out) rfl, blk_free (blk_seen hb (Nat.le_refl _) X2.out) 2⟩
  have x2 := cell_blk X2.out (j := 2) rfl
  have u2 : ub < w2.heap.size := by omega
  have u3 : ¬ (ub = w2.heap.size) := by omega
  have u4 : ¬ (ub = w2.heap.size + 1) := by omega
  have hml : r.free.length ≤ 64 := by have := H1.out.few; have := H1.out.small; omega
  have hml1 : ([] : List Nat).length + r.free.length ≤ 1000 := by simp; omega
  have hml2 : r.free.length + [k].length ≤ 1000 := by simp; omega
  have Y0 : Below w2.heap.size w2 w2.drew := (Below.refl _ _).drew
  have Ya : Below w2.heap.size w2 ((w2.alloc (.cells #[.int .i64 (k : Int)] 3)).alloc (.cells #[] 3)).drew := (((Below.refl _ _).alloc (Nat.le_refl _) _).alloc (by simp) _).drew
  have Yb : Below w2.heap.size w2 ((w2.alloc (.cells #[] 3)).alloc (.cells #[.int .i64 (k : Int)] 3)).drew := (((Below.refl _ _).alloc (Nat.le_refl _) _).alloc (by simp) _).drew
  have Yc : Below w2.heap.size w2 (w2.alloc (.cells #[] 3)).drew := ((Below.refl _ _).alloc (Nat.le_refl _) _).drew
  have Yd : Below w2.heap.size w2 (w2.alloc (.cells #[.int .i64 (k : Int)] 3)).drew := ((Below.refl _ _).alloc (Nat.le_refl _) _).drew
  have Oa : ((w2.alloc (.cells #[.int .i64 (k : Int)] 3)).alloc (.cells #[] 3)).drew.ownsRow w2.heap.size 3 1 (.slice (some ⟨w2.heap.size + 1, 0, none⟩) 0 0) ([] : List Nat).length (([] : List Nat).map gI) := by
    have := World.ownsRow_lit (base := w2.heap.size) (e := 3) (size := 1) (w2.alloc (.cells #[.int .i64 (k : Int)] 3)) #[] 0 (by simp) (Nat.zero_le _) rfl
    rw [World.size_alloc] at this
    exact this
  have Oc : (w2.alloc (.cells #[] 3)).drew.ownsRow w2.heap.size 3 1 (.slice (some ⟨w2.heap.size, 0, none⟩) 0 0) ([] : List Nat).length (([] : List Nat).map gI) := World.ownsRow_lit (base := w2.heap.size) (e := 3) (size := 1) w2 #[] 0 (Nat.le_refl _) (Nat.zero_le _) rfl
  have Ob : ((w2.alloc (.cells #[] 3)).alloc (.cells #[.int .i64 (k : Int)] 3)).drew.ownsRow w2.heap.size 3 1 (.slice (some ⟨w2.heap.size, 0, none⟩) 0 0) ([] : List Nat).length (([] : List Nat).map gI) := (World.ownsRow_lit (base := w2.heap.size) (e := 3) (size := 1) w2 #[] 0 (Nat.le_refl _) (Nat.zero_le _) rfl).alloc _
  have ka : ((w2.alloc (.cells #[.int .i64 (k : Int)] 3)).alloc (.cells #[] 3)).drew.heap[w2.heap.size]? = some (.cells #[.int .i64 (k : Int)] 3 (0, 0)) := (Below.heap_alloc _ _ _ (by simp)).trans (heap_alloc_new w2 _)
  have kb : ((w2.alloc (.cells #[] 3)).alloc (.cells #[.int .i64 (k : Int)] 3)).drew.heap[w2.heap.size + 1]? = some (.cells #[.int .i64 (k : Int)] 3 (0, 0)) := by
    have := heap_alloc_new (w2.alloc (.cells #[] 3)) (.cells #[.int .i64 (k : Int)] 3)
    rw [World.size_alloc] at this
    exact this
  clear hw2 H H1 HA EB E2 X2 c1 ci fri e0
  have HY0 := hid Y0
  have HYa := hid Ya
  have HYb := hid Yb
  have HYc := hid Yc
  have HYd := hid Yd
  have HOa := hid Oa
  have HOb := hid Ob
  have HOc := hid Oc
  have Hka := hid ka
  have Hkb := hid kb
  clear Y0 Ya Yb Yc Yd Oa Ob Oc ka kb
  have k0 := KE.out _ (Below.refl _ _)
  have hWw : W.heap.size < w2.heap.size := by omega
  have hWn : ¬ (W.heap.size = w2.heap.size) := by omega
  have hWn1 : ¬ (W.heap.size = w2.heap.size + 1) := by omega
  have HZ := hid z2
  clear z2 hWl
  go_region_law (first
      | (refine step_rows (ns := r.free) (xs := []) (w2 := w2) rfl _ _ rfl HYa.out HOa.out (F2.out _ HYa.out) hml1 rfl rfl ?_; intro v4 w4 ho4 hb4 hk4; have H4 := hid ho4; have HB4 := hid hb4; have k4 := KE.out _ hb4; have S4 := hid (one_src ((hk4 w2.heap.size (by simp; omega) (by simp [Value.ownBlock])).trans Hka.out)); clear ho4 hb4 hk4)
      | (refine step_rows (ns := r.free) (xs := []) (w2 := w2) rfl _ _ rfl HYb.out HOb.out (F2.out _ HYb.out) hml1 rfl rfl ?_; intro v4 w4 ho4 hb4 hk4; have H4 := hid ho4; have HB4 := hid hb4; have k4 := KE.out _ hb4; have S4 := hid (one_src ((hk4 (w2.heap.size + 1) (by simp) (by simp [Value.ownBlock])).trans Hkb.out)); clear ho4 hb4 hk4)
      | (refine step_rows (ns := r.free) (xs := []) (w2 := w2) rfl _ _ rfl HYc.out HOc.out (F2.out _ HYc.out) hml1 rfl rfl ?_; intro v4 w4 ho4 hb4 hk4; have H4 := hid ho4; have HB4 := hid hb4; have k4 := KE.out _ hb4; have S4 := hid True.intro; have hW4 : W.heap.size < w4.heap.size := (World.block_lt_of_cell? w4 _ k4); have hW4n : ¬ (W.heap.size = w4.heap.size) := by omega
         clear ho4 hb4 hk4)
      | (refine step_rows2 (w2 := w2) rfl _ _ rfl HB4.out H4.out S4.out hml2 rfl rfl ?_; intro g5 c5 w5 ho5 hb5; have ku := (KU.out _ hb5.out).1; have kf := (KU.out _ hb5.out).2)
      | (refine step_rows2 (w2 := w2) rfl _ _ rfl (HB4.out.trans ((bAl w4 _).mono HB4.out.size)) (World.ownsRow.alloc H4.out _) (one_src (heap_alloc_new w4 _)) hml2 rfl rfl ?_; intro g5 c5 w5 ho5 hb5; have ku := (KU.out _ hb5.out).1; have kf := (KU.out _ hb5.out).2))
  all_goals
    have HF := hid (hfin.out _ _ hb5.out ho5.out)
    clear ku kf k4 KE KU F2 hfin HYa HYb HYc HYd HY0 HOa HOb HOc Hka Hkb H4 HB4 S4 k0
    go_wp2_with fail
    go_ret
    obtain ⟨h1, h2, x, h3, h4⟩ := HF.out
    exact ⟨rfl, _, h1, ⟨x, h3, Nat.le_trans HB.out.size h4⟩, (St.of_below HB.out).trans h2 fun _ _ q => q⟩
end Go.Proofs.YtdpoojopipcffaaDoor
