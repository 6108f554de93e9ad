/- A journal: Mark. -/
import Derived.Test.YtnbgjbdbbmpoaaaDoorJoJd
namespace Go.Proofs.YtnbgjbdbbmpoaaaDoor.Jo
open Go.RowKit Go.Shelf Go.Maps
/-- append of one stretch. -/
theorem wpList_str {ops : Array Oper} {rest : List Oper} {o : Oper} {a : Act} {Q : Exit → Act → World → Prop} (hgd : o.guard = none) (s x : Operand)
    (ho : o.op = .call { callee := .builtin .append, args := #[s, x], argTypes := #[65, 65] }) {wc : World} {v : Value} {l : List Sx} {f : Int} (hown : Lie wc 75 2 v l.length (sCells l)) (hl : l.length ≤ 1073741825)
    (hs : a.eval s = v) (hx : a.eval x = .slice (some ⟨wc.heap.size, 0, none⟩) 1 1)
    (h : ∀ v' w2, Hid (Lie w2 75 2 v' (l.length + 1) (sCells (l ++ [⟨f, .slice none 0 0, []⟩]))) → Hid (St (fun x => v.ownBlock = some x) wc w2) → Hid (∀ k, v'.ownBlock = some k → v.ownBlock = some k ∨ wc.heap.size ≤ k) → wpList Tryd.prog ops Q rest (a.put o.dst v') w2) :
    wpList Tryd.prog ops Q (o :: rest) a (wc.alloc (.cells #[.int .i64 f, .slice none 0 0] 75)) := by
  obtain ⟨i0, hi, hz0, hz1, hz2⟩ := info_parts infoStretch
  have hb := bAl wc (.cells #[.int .i64 f, .slice none 0 0] 75)
  have hh := heap_alloc_new wc (.cells #[.int .i64 f, .slice none 0 0] 75)
  obtain ⟨v', w', hrun, h1, h2, h3⟩ := (hown.later hb).more o.type Tryd.underlying65 hi hz0 hz1 hz2 rfl (by decide) ⟨wc.heap.size, 0, none⟩ 1 [.int .i64 f, .slice none 0 0] rfl (fun j u hu => by
    rw [add_at]
    exact cell_blk hh (by simpa using hu)) (by intro u hu; simp at hu; rcases hu with rfl | rfl <;> rfl) (by unfold maxLen; omega) (by omega)
  refine wpList_plain hgd fun K hK' => ?_
  unfold Oper.wp
  simp [execOp, ho, resolve, invoke, builtin, hs, hx, hrun, Result.andThen]
  refine hK' _ _ (h v' w' ?_ ((St.of_below hb).trans h2 fun _ _ q => q) fun k hk => (h3 k hk).imp id fun q => Nat.le_trans hb.size q)
  show Lie _ _ _ _ _ _
  rw [sCells_snoc]
  exact h1
section
variable {B : Nat} {W W' : World} {jb : Nat} {sv mv : Value} {most : Nat} {st : List Sx} {Ad : Nat → Addr}
theorem up_snoc {st : List Sx} {x : Int} {ev : Value} {l : List Ue} (h : (st.map Sx.f).Pairwise (· < ·)) (ha : aboveB st x = true) : ((st ++ [(⟨x, ev, l⟩ : Sx)]).map Sx.f).Pairwise (· < ·) := by
  rw [List.map_append, List.pairwise_append]
  refine ⟨h, by simp, fun a hm b hb => ?_⟩
  have hbx : b = x := by simpa using hb
  rw [hbx]
  by_cases h0 : st = []
  · subst h0; simp at hm
  · obtain ⟨t, s, rfl⟩ : ∃ l s, st = l ++ [s] := ⟨st.dropLast, st.getLast h0, (List.dropLast_concat_getLast h0).symm⟩
    have h1 : s.f < x := by simpa [aboveB] using ha
    rw [List.map_append, List.pairwise_append] at h
    rw [List.map_append, List.mem_append] at hm
    rcases hm with hm | hm
    · have := h.2.2 a hm s.f (by simp)
      omega
    · simp at hm
      subst hm
      exact h1
/-- What a mark leaves. -/
theorem Jn.mark {sv' : Value} {w1 w2 : World} {x : Int} (h : Jn B W jb sv mv most st) (ha : aboveB st x = true) (h0 : 0 ≤ x) (h1 : x ≤ 1073741824) (hB : B ≤ W.heap.size)
    (l1 : Lie w1 75 2 sv' (st.length + 1) (sCells (st ++ [⟨x, .slice none 0 0, []⟩]))) (s1 : St (fun k => sv.ownBlock = some k) W w1) (n1 : ∀ k, sv'.ownBlock = some k → sv.ownBlock = some k ∨ W.heap.size ≤ k)
    (e2 : w2 = ((w1.setCell ⟨jb, 2, none⟩ sv').setCell ⟨jb, 3, none⟩ (.map (some w1.heap.size))).alloc (.map #[] 0)) :
    Jn B w2 jb sv' (.map (some w1.heap.size)) most (st ++ [⟨x, .slice none 0 0, []⟩]) ∧ St (fun k => k = jb ∨ sv.ownBlock = some k) W w2 := by
  have hjn : ¬ sv.ownBlock = some jb := fun q => h.ne_row q rfl
  have b1 := s1.at h.box hjn
  have b2 := heap_setCell_same w1 jb 2 _ _ sv' b1
  have t2 : St (fun k => k = jb) w1 (w1.setCell ⟨jb, 2, none⟩ sv') := St.setCell _ rfl
  have b3 := heap_setCell_same _ jb 3 _ _ (.map (some w1.heap.size)) b2
  have t3 : St (fun k => k = jb) (w1.setCell ⟨jb, 2, none⟩ sv') ((w1.setCell ⟨jb, 2, none⟩ sv').setCell ⟨jb, 3, none⟩ (.map (some w1.heap.size))) := St.setCell _ rfl
  have bb := bAl ((w1.setCell ⟨jb, 2, none⟩ sv').setCell ⟨jb, 3, none⟩ (.map (some w1.heap.size))) (.map #[] 0)
  have b4 := blk_seen bb (Nat.le_refl _) b3
  have t4 : St (fun k => k = jb) ((w1.setCell ⟨jb, 2, none⟩ sv').setCell ⟨jb, 3, none⟩ (.map (some w1.heap.size))) w2 := by rw [e2]; exact St.of_below bb
  have t : St (fun k => k = jb) w1 w2 := (t2.trans t3 fun _ _ q => q).trans t4 fun _ _ q => q
  have hall : St (fun k => k = jb ∨ sv.ownBlock = some k) W w2 := by
    have s1' : St (fun k => k = jb ∨ sv.ownBlock = some k) W w1 := ⟨s1.os, s1.tape, s1.output, s1.size, fun k hk hn => s1.block k hk fun q => hn (.inr q)⟩
    exact s1'.trans t fun _ _ q => .inl q
  have hm : Mt w2 w1.heap.size [] := by
    have m := mt_made ((w1.setCell ⟨jb, 2, none⟩ sv').setCell ⟨jb, 3, none⟩ (.map (some w1.heap.size)))
    rw [show ((w1.setCell ⟨jb, 2, none⟩ sv').setCell ⟨jb, 3, none⟩ (.map (some w1.heap.size))).heap.size = w1.heap.size by simp] at m
    rw [e2]
    exact m
  refine ⟨⟨?_, ?_, ?_, ?_, ?_, up_snoc h.up ha, ?_, ?_, ?_, fun k hk => (n1 k hk).elim (h.slow k) fun q => Nat.le_trans hB q, fun k q => by
    have e : w1.heap.size = k := by simpa using q
    have := s1.size
    omega⟩, hall⟩
  · rw [e2, b4, tot_snoc]
    simp
  · rw [List.length_append]
    refine l1.kept t fun k hk => ?_
    rintro rfl
    rcases n1 k hk with q | q
    · exact hjn q
    · have := h.lt
      omega
  · intro s hs
    rcases List.mem_append.1 hs with hs | hs
    · have hu := h.ents s hs
      refine hu.kept hall (fun k hk => ?_) fun u hm k hk => ?_
      · obtain ⟨-, cur, hc⟩ := hu.typ hk
        rintro (rfl | q)
        · rw [h.box] at hc; simp at hc
        · obtain ⟨c2, q2⟩ := h.row.typ q
          rw [q2] at hc; simp at hc
      · obtain ⟨cur, hc⟩ := (hu.2 u hm).at hk
        rintro (rfl | q)
        · rw [h.box] at hc; simp at hc
        · obtain ⟨c2, q2⟩ := h.row.typ q
          rw [q2] at hc; simp at hc
    · simp at hs
      subst hs
      exact us_nil _ _
  · rw [List.filterMap_append]
    simpa [Value.ownBlock] using h.apart
  · intro a s e
    obtain ⟨-, e2⟩ := List.append_inj' e rfl
    simp at e2
    subst e2
    exact ⟨_, rfl, hm⟩
  · intro s hs
    rcases List.mem_append.1 hs with hs | hs
    · exact h.rng s hs
    · simp at hs
      subst hs
      exact ⟨h0, h1⟩
  · intro s hs
    rcases List.mem_append.1 hs with hs | hs
    · exact h.good s hs
    · simp at hs
      subst hs
      simp
  · rw [tot_snoc]
    exact h.few
set_option maxHeartbeats 1600000 in
set_option maxRecDepth 100000 in
theorem mark_ok (h : Jn B W jb sv mv most st) (hB : B ≤ W.heap.size) (x : Int) (h0 : 0 ≤ x) (h1 : x ≤ 1073741824) (ha : aboveB st x = true) :
    Calls Tryd.prog 12 #[.pointer (some ⟨jb, 0, none⟩), .int .i64 x] W fun e W' => e = .returned .nilIface ∧ ∃ sv' mv', Jn B W' jb sv' mv' most (st ++ [⟨x, .slice none 0 0, []⟩]) ∧ St (fun k => k = jb ∨ sv.ownBlock = some k) W W' := by
  have C := hid (above_any h x)
  rw [ha] at C
  have c2 := h.c2
  have g0 : ¬ x < 0 := by omega
  have g1 : ¬ 1073741824 < x := by omega
  have HR := hid h.row
  have hlen := h.len
  have HL := hid hlen
  have hjlt := h.lt
  have hjne : ¬ jb = W.heap.size := by omega
  have hnr : Hid (¬ sv.ownBlock = some jb) := fun q => h.ne_row q rfl
  have KK := hid (fun sv' w1 w2 => h.mark (sv' := sv') (w1 := w1) (w2 := w2) ha h0 h1 hB)
  have BX := hid h.box
  have hmm := run_makeMap (P := Tryd.prog) 66
  clear h h0 h1 ha hlen hB
  go_enter Tryd.func12, Tryd.ntmps12
  go_wp2_with fail
  refine C.out.mono ?_
  rintro e w' ⟨rfl, rfl⟩
  clear C
  go_wp2_with (at_builtin; refine wpList_str rfl _ _ rfl (l := st) (f := x) HR.out HL.out rfl rfl ?_; intro v' w1 hL hS hN; obtain ⟨a', c', rfl⟩ := hL.out.form; have b1 := hS.out.at BX.out hnr.out; have f2 := blk_free b1 2; have f3 : ∀ u, (w1.setCell ⟨jb, 2, none⟩ u).frozen? ⟨jb, 3, none⟩ = false := fun u => blk_free (heap_setCell_same w1 jb 2 _ _ u b1) 3; have d2 : w1.cell? ⟨jb, 2, none⟩ = some sv := cell_blk b1 rfl; have d3 : w1.cell? ⟨jb, 3, none⟩ = some mv := cell_blk b1 rfl; have hj1 : jb < w1.heap.size := (Array.getElem?_eq_some_iff.1 b1).1; have hj1n : ¬ jb = w1.heap.size := (by omega); clear c2 b1)
  go_ret
  exact ⟨rfl, _, _, KK.out _ _ _ hL.out hS.out hN.out rfl⟩
set_option maxHeartbeats 800000 in
theorem mark_nil (hE : Env8 W Ad) (x : Int) :
    Calls Tryd.prog 12 #[.pointer none, .int .i64 x] W fun e W' => ∃ t q, e = .returned (.iface t q) ∧ Err Ad W' (.iface t q) 2 1 ∧ Below W.heap.size W W' := by
  have c2 := hE.k2
  have AC := hid (fun str => at_err Ad str _ 2 0 W (err_leaf Ad W 2 (by decide)))
  clear hE
  go_enter Tryd.func12, Tryd.ntmps12
  go_wp2_with fail
  refine (AC.out _).mono ?_
  rintro e w1 ⟨t, q, rfl, hv, hb⟩
  have HV := hid hv
  have HB := hid hb
  clear hv hb AC
  go_wp2_with fail
  go_ret
  exact ⟨t, q, rfl, HV.out, HB.out⟩
set_option maxHeartbeats 800000 in
theorem mark_bad (h : Jn B W jb sv mv most st) (hE : Env8 W Ad) (x : Int) (hx : x < 0 ∨ 1073741824 < x ∨ aboveB st x = false) :
    Calls Tryd.prog 12 #[.pointer (some ⟨jb, 0, none⟩), .int .i64 x] W fun e W' => ∃ t q, e = .returned (.iface t q) ∧ Err Ad W' (.iface t q) 1 1 ∧ Below W.heap.size W W' := by
  have c1 := hE.k1
  have AC := hid (fun str => at_err Ad str _ 1 0 W (err_leaf Ad W 1 (by decide)))
  have C := hid (above_any h x)
  clear hE h
  by_cases h0 : x < 0
  · clear hx
    go_enter Tryd.func12, Tryd.ntmps12
    go_wp2_with fail
    refine (AC.out _).mono ?_
    rintro e w1 ⟨t, q, rfl, hv, hb⟩
    have HV := hid hv
    have HB := hid hb
    clear hv hb AC
    go_wp2_with fail
    go_ret
    exact ⟨t, q, rfl, HV.out, HB.out⟩
  · by_cases h1 : 1073741824 < x
    · clear hx
      go_enter Tryd.func12, Tryd.ntmps12
      go_wp2_with fail
      refine (AC.out _).mono ?_
      rintro e w1 ⟨t, q, rfl, hv, hb⟩
      have HV := hid hv
      have HB := hid hb
      clear hv hb AC
      go_wp2_with fail
      go_ret
      exact ⟨t, q, rfl, HV.out, HB.out⟩
    · have ha : aboveB st x = false := by
        rcases hx with q | q | q
        · exact absurd q h0
        · exact absurd q h1
        · exact q
      rw [ha] at C
      clear hx ha
      go_enter Tryd.func12, Tryd.ntmps12
      go_wp2_with fail
      refine C.out.mono ?_
      rintro e w' ⟨rfl, rfl⟩
      go_wp2_with fail
      refine (AC.out _).mono ?_
      rintro e w1 ⟨t, q, rfl, hv, hb⟩
      have HV := hid hv
      have HB := hid hb
      clear hv hb AC
      go_wp2_with fail
      go_ret
      exact ⟨t, q, rfl, HV.out, HB.out⟩
end
end Go.Proofs.YtnbgjbdbbmpoaaaDoor.Jo
