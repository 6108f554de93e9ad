/- A journal: all entries from a stretch on, the last one first. -/
import Derived.Test.YtnbgjbdbbmpoaaaDoorJoJm
import Derived.Test.YtnbgjbdbbmpoaaaDoorKi
namespace Go.Proofs.YtnbgjbdbbmpoaaaDoor.Jo
open Go.RowKit Go.Shelf Go.Maps
attribute [local go_sem] Oper.semAt_some
/-- append of one entry, wherever it lies, to a long row. -/
theorem step_und2 {ops : Array Oper} {o : Oper} {a : Act} {K : Act → World → Prop} {Q : Exit → Act → World → Prop} {E : Prop} (hgd : o.guard = none) (s x : Operand)
    (ho : o.op = .call { callee := .builtin .append, args := #[s, x], argTypes := #[41, 41] }) {B pb : Nat} {wc : World} {v : Value} {l : List Ue} {u : Ue} (hown : wc.ownsRow B 38 11 v l.length (uCells l)) (hl : l.length ≤ 100000000000) (hB : B ≤ wc.heap.size) (hpb : wc.heap[pb]? = some (.cells u.arr 38 (0, 0))) (hone : u.pv.oneCell' = true)
    (hs : a.eval s = v) (hx : a.eval x = .slice (some ⟨pb, 0, none⟩) 1 1)
    (h : ∀ g' cap w2, Hid (w2.ownsRow B 38 11 (.slice (some ⟨g', 0, none⟩) (l.length + 1) cap) (l.length + 1) (uCells (l ++ [u]))) → Hid (St (fun x => v.ownBlock = some x) wc w2) → Hid (v.ownBlock = some g' ∨ wc.heap.size ≤ g') → K (a.put o.dst (.slice (some ⟨g', 0, none⟩) (l.length + 1) cap)) w2) :
    if Region.wanted o (yielded ops a.tmps) = true then Oper.wp Tryd.prog o a wc K Q else E := by
  obtain ⟨i0, hi, hz0, hz1, hz2⟩ := info_parts infoUndo
  refine step_append_lies _ hgd s x 41 ho B 38 i0 _ 11 104 Tryd.underlying41 hi hz0 hz1 hz2 rfl (by decide) v l.length (uCells l) hs hown ⟨pb, 0, none⟩ 1 1 u.arr.toList hx rfl (fun j u' hu => by
    rw [add_at]
    exact cell_blk hpb (by simpa using hu)) (by intro q hq; simp [Ue.arr] at hq; rcases hq with rfl | rfl | rfl | rfl | rfl | rfl | rfl | rfl | rfl | rfl | rfl <;> first | rfl | exact hone) (by decide) (by unfold maxLen; omega) (by omega) hB wc.heap.size rfl ?_
  intro g' cap w2 ow hg hat hlt
  refine h _ _ w2 ?_ (St.of_grown (S := fun x => v.ownBlock = some x) hg fun k e => e) ?_
  · show World.ownsRow _ _ _ _ _ _ _
    rw [uCells_snoc]
    exact ow
  · rcases hat with h1 | h1
    · exact .inl h1
    · exact .inr (by omega)
theorem Prts.one {B : Nat} {W : World} {v : Value} {l : List Prt} (h : Prts B W v l) : v.oneCell' = true := by
  obtain ⟨a, c, rfl⟩ := h.slice
  rfl
/-- The entries of stretches, the last one first. -/
def acc (t : List Sx) : List Ue := (t.reverse.map fun s => s.l.reverse).flatten.map Ue.bare
def accP (t : List Sx) (pre : List (Fin t.length)) : List Ue := (pre.map fun i => (t.get i).l.reverse).flatten.map Ue.bare
theorem accP_snoc (t : List Sx) (pre : List (Fin t.length)) (x : Fin t.length) : accP t (pre ++ [x]) = accP t pre ++ (t.get x).l.reverse.map Ue.bare := by simp [accP]
theorem fin_map {α β : Type} (t : List α) (f : α → β) : (List.finRange t.length).map (fun i => f (t.get i)) = t.map f := by
  apply List.ext_getElem
  · simp
  · intro i h1 h2
    simp
theorem accP_all (t : List Sx) : accP t (List.finRange t.length).reverse = acc t := by
  unfold accP acc
  rw [List.map_reverse, fin_map t (fun s => s.l.reverse), List.map_reverse]
theorem row_all (l : List Ue) : (List.finRange l.length).reverse.map (fun j => (l.get j).bare) = l.reverse.map Ue.bare := by
  rw [List.map_reverse, fin_map l Ue.bare, List.map_reverse]
theorem accP_len (t : List Sx) (pre : List (Fin t.length)) (h : ∀ s ∈ t, s.l.length ≤ 65536) : (accP t pre).length ≤ pre.length * 65536 := by
  induction pre with
  | nil => simp [accP]
  | cons x pre ih =>
    have := h (t.get x) (List.get_mem _ _)
    have e : accP t (x :: pre) = (t.get x).l.reverse.map Ue.bare ++ accP t pre := by simp [accP]
    rw [e, List.length_append, List.length_map, List.length_reverse, List.length_cons]
    omega
/-- How the list stands between two rounds. -/
def BI (n₀ tb : Nat) (w : World) (want : List Ue) (W : World) : Prop := (∃ lv l, Boxed W tb 41 lv ∧ Us n₀ W lv l ∧ l.map Ue.bare = want) ∧ Below n₀ w W
theorem us_grown {n₀ : Nat} {X Y : World} {row : Option Nat} {lv : Value} {l : List Ue} (u : Us n₀ X lv l) (hg : X.grownBy Y row) (hr : ∀ r, row = some r → ∃ o : Obj, X.heap[r]? = some o ∧ o.isCells = false) : Us n₀ Y lv l :=
  u.kept (St.of_grown (S := fun k => row = some k) hg fun _ e => e) (fun k hk q => by
    obtain ⟨-, c, t⟩ := u.typ hk
    obtain ⟨o, ho, hc⟩ := hr k q
    rw [t] at ho; cases ho; cases hc) fun x hx k hk q => by
    obtain ⟨c, t⟩ := (u.2 x hx).at hk
    obtain ⟨o, ho, hc⟩ := hr k q
    rw [t] at ho; cases ho; cases hc
theorem BI.own {β : Type} {n₀ tb B : Nat} {w : World} (f : β → List Ue) (hn : n₀ ≤ w.heap.size) (hB : n₀ ≤ B) : OwnFrom B (fun s W => BI n₀ tb w (f s) W) := by
  rintro s X Y row ⟨⟨lv, l, b, u, e⟩, hb⟩ hg hr
  refine ⟨⟨lv, l, ?_, us_grown u hg fun r q => (hr r q).2, e⟩, hb.grown hg (Nat.le_trans hn hb.size) fun k q => Nat.le_trans hB (hr k q).1⟩
  exact b.kept hg fun q => by
    obtain ⟨-, o, ho, hc⟩ := hr tb q.symm
    rw [show X.heap[tb]? = _ from b] at ho; cases ho; cases hc
/-- A block of cells stays. -/
theorem cells_own {β : Type} {B k : Nat} {cs : Array Value} {e : TypeId} : OwnFrom B (fun (_ : β) W => W.heap[k]? = some (.cells cs e (0, 0))) := by
  rintro s X Y row h hg hr
  refine (hg.block k (Array.getElem?_eq_some_iff.1 h).1 fun q => ?_).trans h
  obtain ⟨-, o, ho, hc⟩ := hr k q.symm
  rw [h] at ho; cases ho; cases hc
theorem kq_own {β : Type} {n₀ tb B : Nat} {w : World} (hn : n₀ ≤ B) : OwnFrom B (fun (_ : β) W => Kq n₀ tb w W) := by
  rintro s X Y row h hg hr
  refine ⟨Nat.le_trans h.size hg.size, fun k o hk q => ?_⟩
  have hx := h.keep k o hk q
  refine (hg.block k (Array.getElem?_eq_some_iff.1 hx).1 fun e => ?_).trans hx
  obtain ⟨h1, o', ho, hc⟩ := hr k e.symm
  rw [hx] at ho
  cases ho
  rcases q with q | ⟨-, cs, t, rfl, -⟩
  · omega
  · cases hc
/-- What one round of the inner loop leaves. -/
theorem body_end {n₀ tb : Nat} {W1 w3 w5 : World} {lv v' : Value} {l : List Ue} {u : Ue} {g' cap' : Nat} (hn : n₀ ≤ W1.heap.size) (htb : n₀ ≤ tb) (bx : Boxed W1 tb 41 lv) (us : Us n₀ W1 lv l)
    (hP : Prts W1.heap.size w3 v' u.ps) (hb : Below W1.heap.size W1 w3)
    (ho : w5.ownsRow n₀ 38 11 (.slice (some ⟨g', 0, none⟩) (l.length + 1) cap') (l.length + 1) (uCells (l ++ [u.with v']))) (hs : St (fun x => lv.ownBlock = some x) (w3.alloc (.cells (u.with v').arr 38)) w5) :
    Boxed (w5.setCell ⟨tb, 0, none⟩ (.slice (some ⟨g', 0, none⟩) (l.length + 1) cap')) tb 41 (.slice (some ⟨g', 0, none⟩) (l.length + 1) cap') ∧ Us n₀ (w5.setCell ⟨tb, 0, none⟩ (.slice (some ⟨g', 0, none⟩) (l.length + 1) cap')) (.slice (some ⟨g', 0, none⟩) (l.length + 1) cap') (l ++ [u.with v']) ∧ Below n₀ W1 (w5.setCell ⟨tb, 0, none⟩ (.slice (some ⟨g', 0, none⟩) (l.length + 1) cap')) ∧ KeepsOthers W1 (w5.setCell ⟨tb, 0, none⟩ (.slice (some ⟨g', 0, none⟩) (l.length + 1) cap')) ∧ Kq n₀ tb W1 (w5.setCell ⟨tb, 0, none⟩ (.slice (some ⟨g', 0, none⟩) (l.length + 1) cap')) := by
  have b4 : Below W1.heap.size W1 (w3.alloc (.cells (u.with v').arr 38)) := hb.alloc hb.size _
  have us4 := us.later b4
  have bx4 : (w3.alloc (.cells (u.with v').arr 38)).heap[tb]? = some (.cells #[lv] 41 (0, 0)) := blk_seen b4 (Nat.le_refl _) bx
  have ntb : ¬ lv.ownBlock = some tb := fun q => by
    obtain ⟨-, c, t⟩ := us4.typ q
    rw [t] at bx4; simp at bx4
  have bx5 : Boxed w5 tb 41 lv := hs.at bx4 ntb
  have bx6 := bx5.set (.slice (some ⟨g', 0, none⟩) (l.length + 1) cap')
  obtain ⟨w6, hw6⟩ : ∃ w6, w6 = w5.setCell ⟨tb, 0, none⟩ (.slice (some ⟨g', 0, none⟩) (l.length + 1) cap') := ⟨_, rfl⟩
  rw [← hw6] at bx6 ⊢
  have s6 : St (fun k => k = tb) w5 w6 := by rw [hw6]; exact St.setCell _ rfl
  have s46 : St (fun k => k = tb ∨ lv.ownBlock = some k) (w3.alloc (.cells (u.with v').arr 38)) w6 := by
    have q : St (fun k => k = tb ∨ lv.ownBlock = some k) (w3.alloc (.cells (u.with v').arr 38)) w5 := ⟨hs.os, hs.tape, hs.output, hs.size, fun k hk n => hs.block k hk fun e => n (.inr e)⟩
    exact q.trans s6 fun _ _ e => .inl e
  have low : ∀ k, (k = tb ∨ lv.ownBlock = some k) → n₀ ≤ k := fun k q => by
    rcases q with rfl | q
    · exact htb
    · exact (us.typ q).1
  have prt : ∀ {B'} {v : Value} {l : List Prt}, Prts B' (w3.alloc (.cells (u.with v').arr 38)) v l → Prts B' w6 v l := fun {B'} {v} {l} hq => hq.kept s46 fun k hk => by
    obtain ⟨c, q⟩ := hq.at hk
    rintro (rfl | e)
    · rw [bx4] at q; simp at q
    · obtain ⟨-, c2, q2⟩ := us4.typ e
      rw [q2] at q; simp at q
  have sall : ∀ k o, W1.heap[k]? = some o → ¬ (k = tb ∨ lv.ownBlock = some k) → w6.heap[k]? = some o := fun k o hk hq => s46.at (blk_seen b4 (Nat.le_refl _) hk) hq
  refine ⟨bx6, ⟨?_, fun x hx => ?_⟩, ?_, ⟨?_, fun k o hk hc => ?_⟩, ⟨?_, fun k o hk hq => ?_⟩⟩
  · show World.ownsRow _ _ _ _ _ _ _
    rw [List.length_append]
    refine own_st ho s6 fun k hk q => ?_
    obtain rfl : g' = k := by simpa [Value.ownBlock] using hk
    obtain ⟨g2, c2, cur, q1, q2, q3, -⟩ := ho.2.resolve_left (by simp)
    simp at q1
    obtain ⟨rfl, -⟩ := q1
    rw [q, show w5.heap[tb]? = _ from bx5] at q3
    simp at q3
  · rcases List.mem_append.1 hx with hx | hx
    · exact prt (us4.2 x hx)
    · simp at hx
      subst hx
      exact (prt (hP.later (bAl _ _))).lower hn
  · exact (b4.mono hn).trans (s46.below low (Nat.le_trans hn b4.size))
  · exact Nat.le_trans b4.size s46.size
  · refine sall k o hk ?_
    rintro (rfl | e)
    · rw [show W1.heap[k]? = _ from bx] at hk; cases hk; cases hc
    · obtain ⟨-, c, t⟩ := us.typ e
      rw [t] at hk; cases hk; cases hc
  · exact Nat.le_trans b4.size s46.size
  · refine sall k o hk ?_
    rintro (rfl | e)
    · rcases hq with hq | ⟨hq, -⟩
      · omega
      · exact hq rfl
    · obtain ⟨h1, c, t⟩ := us.typ e
      rcases hq with hq | ⟨-, cs, ty, rfl, hty⟩
      · omega
      · rw [t] at hk; cases hk; exact hty rfl
set_option maxRecDepth 100000 in
set_option maxHeartbeats 8000000 in
theorem behind_any {B : Nat} {W : World} {jb : Nat} {sv mv : Value} {most : Nat} {st : List Sx} (h : Jn B W jb sv mv most st) (m : Nat) (hm : m < st.length) (hst : st.length ≤ 1000000) :
    Calls Tryd.prog 37 #[.pointer (some ⟨jb, 0, none⟩), .int .i64 (m : Int)] W fun e W' => ∃ lv l, e = .returned lv ∧ Us W.heap.size W' lv l ∧ l.map Ue.bare = acc (st.drop m) ∧ Below W.heap.size W W' := by
  obtain ⟨g, off, cap, rfl, hcap, hcm, -⟩ := h.row.pos (by omega)
  have hR := h.row.high m (by omega)
  rw [sCells_drop] at hR
  have c2 := h.c2
  have hjlt := h.lt
  have hjne : ¬ jb = W.heap.size := by omega
  have hglt : g < W.heap.size := h.row.lt g rfl
  have hmi : (m : Int) < (st.length : Int) := by omega
  have hsi : (st.length : Int) ≤ 1000000 := by omega
  have hci : (st.length : Int) ≤ (cap : Int) := by omega
  have hmx : (cap : Int) ≤ 9223372036854775807 := by unfold maxLen at hcm; omega
  have HT : ∀ s ∈ st.drop m, Us B W s.ev s.l ∧ s.l.length ≤ 65536 ∧ ∀ u ∈ s.l, u.ps.length ≤ 1000 := fun s hs => by
    have hs' := List.mem_of_mem_drop hs
    refine ⟨h.ents s hs', ?_, fun u hu => (h.good s hs' u hu).2.2.2⟩
    have h1 : s.l.length ≤ tot st := by
      obtain ⟨a, b, rfl⟩ := List.append_of_mem hs'
      rw [tot_app]
      have : tot (s :: b) = s.l.length + tot b := by simp [tot]
      omega
    have := h.few
    omega
  obtain ⟨t, ht⟩ : ∃ t, t = st.drop m := ⟨_, rfl⟩
  have htl : t.length = st.length - m := by rw [ht]; simp
  rw [← ht] at HT hR ⊢
  rw [← htl] at hR
  refine callsIn_wide (n := 9) |>.1 ?_
  refine callsIn_of_wp_marks Tryd.func37 rfl trivial ?_ rfl
  simp only [Tryd.ntmps37, List.size_toArray, List.length_cons, List.length_nil, Nat.reduceAdd, Nat.reduceSub, Array.replicate_succ, Array.replicate_zero, List.push_toArray, List.append_toArray, List.nil_append, List.cons_append]
  have HR := hid hR
  have HTT := hid HT
  have HTL := hid htl
  clear h hR HT htl ht
  gi_wp2_with fail
  refine ⟨trivial, ?_⟩
  refine (callsIn_wide.2 (back_S _ ⟨_, _, _, rfl⟩ _)).mono ?_
  rintro e w' ⟨rfl, rfl⟩
  gi_wp2_with fail
  obtain ⟨W0, hW0⟩ : ∃ W0, W0 = (W.alloc (.cells #[.slice none 0 0] 41)).alloc (.cells #[.slice (some ⟨g, off + m * 2, none⟩) (st.length - m) (cap - m)] 65) := ⟨_, rfl⟩
  rw [← hW0]
  have b0 : Below W.heap.size W W0 := by rw [hW0]; exact ((Below.refl _ _).alloc (Nat.le_refl _) _).alloc (by simp) _
  have z0 : W0.heap.size = W.heap.size + 2 := by rw [hW0]; simp
  have bx0 : Boxed W0 W.heap.size 41 (.slice none 0 0) := by
    rw [hW0]
    exact blk_seen (bAl _ _) (Nat.le_refl _) (heap_alloc_new W _)
  have bn0 : W0.heap[W.heap.size + 1]? = some (.cells #[.slice (some ⟨g, off + m * 2, none⟩) (st.length - m) (cap - m)] 65 (0, 0)) := by
    rw [hW0]
    simpa using heap_alloc_new (W.alloc (.cells #[.slice none 0 0] 41)) (.cells #[.slice (some ⟨g, off + m * 2, none⟩) (st.length - m) (cap - m)] 65)
  clear hW0
  have HLS := HR.out.later b0
  rw [HTL.out] at HLS
  refine wpIn_rangeFunc_ownH (F := Fence.wide) (n := 9) rfl (by decide) (gf := 55) (lb := #[.pointer (some ⟨W.heap.size + 1, 0, none⟩)]) rfl trivial (enters_of Tryd.func55 (by kernel_rfl) rfl)
    (back_stops_S Fence.wide (9 - 1) trivial rfl (by decide) (W.heap.size + 1) W.heap.size W.heap.size (.slice (some ⟨g, off + m * 2, none⟩) (st.length - m) (cap - m)) t W0 bn0 (by omega) (by rw [HTL.out]; exact HLS) (fun k hk => by
      obtain rfl : g = k := by simpa [Value.ownBlock] using hk
      exact hglt) (by rw [HTL.out]; omega)) Kq.trans (Kq.put (by omega)) (Below.refl _ _) (fun _ => rfl)
    (fun pre X => BI W.heap.size W.heap.size W (accP t pre) X) (fun _ _ _ => False) (BI.own _ (Nat.le_refl _) (by omega)) (fun _ _ _ _ _ hs _ _ => hs)
    ⟨⟨_, [], bx0, us_nil _ _, rfl⟩, b0⟩
    (fun x a' X => ∃ Bx, X.heap[Bx]? = some (.cells #[.int .i64 (t.get x).f, (t.get x).ev] 75 (0, 0)) ∧ a' = { tmps := #[.pointer (some ⟨jb, 0, none⟩), .int .i64 (m : Int), undef, undef, .slice none 0 0, .pointer (some ⟨W.heap.size, 0, none⟩), undef, .pointer (some ⟨Bx, 0, none⟩), undef, undef, .pointer (some ⟨jb, 0, none⟩), .pointer (some ⟨jb, 0, none⟩), .pointer (some ⟨jb, 2, none⟩), .slice (some ⟨g, off, none⟩) st.length cap, .int .i64 (m : Int), .slice (some ⟨g, off + m * 2, none⟩) (st.length - m) (cap - m), .func (.func 55) #[] #[.pointer (some ⟨W.heap.size + 1, 0, none⟩)], .int .i64 (x.val : Int), .agg #[.int .i64 (t.get x).f, (t.get x).ev], undef, undef, undef, undef, undef, undef, undef, undef, undef, undef, undef], defers := [] })
    (fun x a' _ X Y row hs hg hr => by
      obtain ⟨Bx, h1, h2⟩ := hs
      exact ⟨Bx, cells_own () X Y row h1 hg hr, h2⟩)
    ?assign ?body ?done ?stop
  case assign =>
    rintro l pre x X K hi hK
    obtain ⟨a, c, hev⟩ := ((HTT.out _ (List.get_mem t x)).1).form
    simp only [encS]
    generalize t.get x = s at hK hev ⊢
    obtain ⟨f, ev, ll⟩ := s
    simp only at hev
    subst hev
    gi_wp2
    exact hK _ _ ((KeepsOthers.alloc _ _).from _) (Kq.of_below (bAl _ _)) (BI.own (accP t) (Nat.le_refl _) (Nat.le_refl _) |>.alloc _ hi) ⟨X.heap.size, heap_alloc_new X _, rfl⟩
  case body =>
    rintro l pre x a' X hl ⟨r, hr⟩ hi ⟨Bx, hBx, rfl⟩ hlt
    have hmem : (t.get x) ∈ t := List.get_mem _ _
    obtain ⟨hUs, hU5, hps⟩ := HTT.out _ hmem
    have e1 := cell_blk (j := 1) hBx rfl
    have hev : ∃ a n c, (t.get x).ev = .slice a n c := by
      obtain ⟨a, c, q⟩ := hUs.form
      exact ⟨a, _, c, q⟩
    have HI := hid hi
    have hzX : W.heap.size ≤ X.heap.size := hi.2.size
    have hzX2 : W.heap.size < X.heap.size := by
      obtain ⟨⟨_, _, q, -⟩, -⟩ := hi
      exact q.lt
    clear hi
    gi_wp2_with fail
    refine ⟨trivial, ?_⟩
    refine (CallsIn.inRound l (callsIn_wide.2 (back_U _ hev _))).mono ?_
    rintro e w' ⟨rfl, rfl⟩
    gi_wp2_with fail
    have bX := bAl X (.cells #[(t.get x).ev] 41)
    have hr' : (X.alloc (.cells #[(t.get x).ev] 41)).heap[l]? = some (.loop r) := blk_seen bX (Nat.le_refl _) hr
    have hlie : Lie (X.alloc (.cells #[(t.get x).ev] 41)) 38 11 (t.get x).ev (t.get x).l.length (uCells (t.get x).l) := Lie.of_own ((hUs.later (HI.out.2.trans (bX.mono hzX))).1)
    refine wpIn_rangeFunc_ownN (F := Fence.wide.inRound l) (n := 7) (l₀ := l) (r₀ := r) rfl hr' (by decide) (gf := 56) (lb := #[.pointer (some ⟨X.heap.size, 0, none⟩)]) rfl trivial (enters_of Tryd.func56 (by kernel_rfl) rfl)
      ((back_stops_U Fence.wide (7 - 1) trivial rfl (by decide) X.heap.size W.heap.size W.heap.size (t.get x).ev (t.get x).l _ (heap_alloc_new X _) (by omega) hlie (fun k hk => (hUs.1.lt k hk).2) (by omega)).inRound l) Kq.trans (Kq.put (by simp; omega)) (Below.refl _ _) (fun _ => rfl)
      (fun pre' Y => BI W.heap.size W.heap.size W (accP t pre ++ pre'.map fun j => ((t.get x).l.get j).bare) Y ∧ (KeepsFrom W0.heap.size X Y ∧ Kq W.heap.size W.heap.size X Y)) (fun _ _ _ => False)
      (OwnFrom.and (BI.own _ (Nat.le_refl _) (by simp; omega)) (OwnFrom.and (ownFrom_keepsFrom (by simp)) (kq_own (by simp; omega)))) (fun _ _ _ _ _ hs _ _ => hs)
      ⟨by
        have := BI.own (B := W.heap.size) (fun (_ : Unit) => accP t pre) (Nat.le_refl _) (Nat.le_refl _) |>.alloc (s := ()) (.cells #[(t.get x).ev] 41) HI.out
        simpa using this, (KeepsOthers.alloc _ _).from _, Kq.of_below bX⟩
      (fun y a'' Y => ∃ Bu, Y.heap[Bu]? = some (.cells #[.int .i64 ((t.get x).l.get y).k, .int .i64 ((t.get x).l.get y).id, .int .i64 ((t.get x).l.get y).p.c, .int .i64 ((t.get x).l.get y).p.v0, .int .i64 ((t.get x).l.get y).p.v1, .int .i64 ((t.get x).l.get y).p.v2, .int .i64 ((t.get x).l.get y).p.v3, .int .i64 ((t.get x).l.get y).p.t, ((t.get x).l.get y).pv, .int .i64 ((t.get x).l.get y).n, .int .i64 ((t.get x).l.get y).o] 38 (0, 0)) ∧ a'' = { tmps := #[.pointer (some ⟨jb, 0, none⟩), .int .i64 (m : Int), undef, undef, .slice none 0 0, .pointer (some ⟨W.heap.size, 0, none⟩), undef, .pointer (some ⟨Bx, 0, none⟩), undef, .pointer (some ⟨Bu, 0, none⟩), .pointer (some ⟨jb, 0, none⟩), .pointer (some ⟨jb, 0, none⟩), .pointer (some ⟨jb, 2, none⟩), .slice (some ⟨g, off, none⟩) st.length cap, .int .i64 (m : Int), .slice (some ⟨g, off + m * 2, none⟩) (st.length - m) (cap - m), .func (.func 55) #[] #[.pointer (some ⟨W.heap.size + 1, 0, none⟩)], .int .i64 (x.val : Int), .agg #[.int .i64 (t.get x).f, (t.get x).ev], .pointer (some ⟨Bx, 1, none⟩), (t.get x).ev, .func (.func 56) #[] #[.pointer (some ⟨X.heap.size, 0, none⟩)], .int .i64 (y.val : Int), .agg #[.int .i64 ((t.get x).l.get y).k, .int .i64 ((t.get x).l.get y).id, .int .i64 ((t.get x).l.get y).p.c, .int .i64 ((t.get x).l.get y).p.v0, .int .i64 ((t.get x).l.get y).p.v1, .int .i64 ((t.get x).l.get y).p.v2, .int .i64 ((t.get x).l.get y).p.v3, .int .i64 ((t.get x).l.get y).p.t, ((t.get x).l.get y).pv, .int .i64 ((t.get x).l.get y).n, .int .i64 ((t.get x).l.get y).o], undef, undef, undef, undef, undef, undef], defers := [] })
      (fun y a'' _ Y Z row hs hg hr => by
        obtain ⟨Bu, h1, h2⟩ := hs
        exact ⟨Bu, cells_own () Y Z row h1 hg hr, h2⟩)
      ?assign2 ?body2 ?done2 ?stop2
    case assign2 =>
      rintro l2 pre' y Y K ⟨hi1, hi2, hi3⟩ hK
      obtain ⟨a, c, hev2⟩ := (hUs.2 _ (List.get_mem (t.get x).l y)).slice
      simp only [encU]
      generalize (t.get x).l.get y = u at hK hev2 ⊢
      obtain ⟨k, id, p, pv, ps, n, o⟩ := u
      simp only at hev2
      subst hev2
      gi_wp2
      have bY := fun ob => bAl Y ob
      exact hK _ _ ((KeepsOthers.alloc _ _).from _) (Kq.of_below (bY _)) ⟨BI.own (fun (_ : Unit) => _) (Nat.le_refl _) (Nat.le_refl _) |>.alloc (s := ()) _ hi1, hi2.trans ((KeepsOthers.alloc _ _).from _), hi3.trans (Kq.of_below (bY _))⟩ ⟨Y.heap.size, heap_alloc_new Y _, rfl⟩
    case body2 =>
      rintro l2 pre' y a'' Y _ _ ⟨⟨⟨lv, ls, bxY, usY, hls⟩, hbY⟩, hi2, hi3⟩ ⟨Bu, hBu, rfl⟩ hlt2
      have y0 := cell_blk (j := 0) hBu rfl
      have y1 := cell_blk (j := 1) hBu rfl
      have y2 := cell_blk (j := 2) hBu rfl
      have y3 := cell_blk (j := 3) hBu rfl
      have y4 := cell_blk (j := 4) hBu rfl
      have y5 := cell_blk (j := 5) hBu rfl
      have y6 := cell_blk (j := 6) hBu rfl
      have y7 := cell_blk (j := 7) hBu rfl
      have y8 := cell_blk (j := 8) hBu rfl
      have y9 := cell_blk (j := 9) hBu rfl
      have y10 := cell_blk (j := 10) hBu rfl
      have hyu : ((t.get x).l.get y) ∈ (t.get x).l := List.get_mem _ _
      have hpu := (hUs.later hbY).2 _ hyu
      have ctY := bxY.cell
      have hzY : W.heap.size ≤ Y.heap.size := hbY.size
      have CP : Hid (∀ Z, Below Y.heap.size Y Z → Calls Tryd.prog 45 #[.agg #[.int .i64 ((t.get x).l.get y).k, .int .i64 ((t.get x).l.get y).id, .int .i64 ((t.get x).l.get y).p.c, .int .i64 ((t.get x).l.get y).p.v0, .int .i64 ((t.get x).l.get y).p.v1, .int .i64 ((t.get x).l.get y).p.v2, .int .i64 ((t.get x).l.get y).p.v3, .int .i64 ((t.get x).l.get y).p.t, ((t.get x).l.get y).pv, .int .i64 ((t.get x).l.get y).n, .int .i64 ((t.get x).l.get y).o]] Z fun e Z' => ∃ v', e = .returned (.agg #[.int .i64 ((t.get x).l.get y).k, .int .i64 ((t.get x).l.get y).id, .int .i64 ((t.get x).l.get y).p.c, .int .i64 ((t.get x).l.get y).p.v0, .int .i64 ((t.get x).l.get y).p.v1, .int .i64 ((t.get x).l.get y).p.v2, .int .i64 ((t.get x).l.get y).p.v3, .int .i64 ((t.get x).l.get y).p.t, v', .int .i64 ((t.get x).l.get y).n, .int .i64 ((t.get x).l.get y).o]) ∧ Hid (Prts Y.heap.size Z' v' ((t.get x).l.get y).ps) ∧ Hid (Below Z.heap.size Z Z')) := fun Z hZ => (copied_any ((t.get x).l.get y) (hpu.later hZ).src (hps _ hyu)).mono fun e Z' ⟨v', q1, q2, q3⟩ => ⟨v', q1, q2.lower hZ.size, q3⟩
      have B1 : Hid (∀ w3, Below Y.drew.heap.size Y.drew w3 → Below Y.heap.size Y w3) := fun w3 q => (Below.refl Y.heap.size Y).drew.trans q
      have CT : Hid (∀ w3, Below Y.heap.size Y w3 → w3.cell? ⟨W.heap.size, 0, none⟩ = some lv) := fun w3 q => (show Boxed w3 W.heap.size 41 lv from blk_seen q (Nat.le_refl _) bxY).cell
      have OW : Hid (∀ w3, Below Y.heap.size Y w3 → ∀ ob, (w3.alloc ob).ownsRow W.heap.size 38 11 lv ls.length (uCells ls)) := fun w3 q ob => World.ownsRow.alloc ((usY.later q).1) ob
      have hB4 : ∀ w3, Below Y.heap.size Y w3 → ∀ ob, W.heap.size ≤ (w3.alloc ob).heap.size := fun w3 q ob => by
        have := q.size
        simp
        omega
      have HLL : Hid (ls.length ≤ 100000000000) := by
        show ls.length ≤ 100000000000
        have q1 : ls.length = (ls.map Ue.bare).length := by simp
        have q2 := accP_len t pre (fun s hs => (HTT.out s hs).2.1)
        rw [hls, List.length_append, List.length_map] at q1
        have := HTL.out
        omega
      have C5 : Hid (∀ w3 ob w5, Below Y.heap.size Y w3 → St (fun x => lv.ownBlock = some x) (w3.alloc ob) w5 → w5.cell? ⟨W.heap.size, 0, none⟩ = some lv ∧ w5.frozen? ⟨W.heap.size, 0, none⟩ = false) := fun w3 ob w5 q hs => by
        have b4 : Below Y.heap.size Y (w3.alloc ob) := q.alloc q.size _
        have bx4 : (w3.alloc ob).heap[W.heap.size]? = some (.cells #[lv] 41 (0, 0)) := blk_seen b4 (Nat.le_refl _) bxY
        have bx5 : Boxed w5 W.heap.size 41 lv := hs.at bx4 fun e => by
          obtain ⟨-, c, t⟩ := (usY.later b4).typ e
          rw [t] at bx4; simp at bx4
        exact ⟨bx5.cell, bx5.frozen⟩
      have FIN : Hid (∀ (v3 : Value) (w3 w5 : World) (g' cap' : Nat), Prts Y.heap.size w3 v3 ((t.get x).l.get y).ps → Below Y.drew.heap.size Y.drew w3 → w5.ownsRow W.heap.size 38 11 (.slice (some ⟨g', 0, none⟩) (ls.length + 1) cap') (ls.length + 1) (uCells (ls ++ [Ue.with ((t.get x).l.get y) v3])) → St (fun x => lv.ownBlock = some x) (w3.alloc (.cells (Ue.with ((t.get x).l.get y) v3).arr 38)) w5 → (lv.ownBlock = some g' ∨ (w3.alloc (.cells (Ue.with ((t.get x).l.get y) v3).arr 38)).heap.size ≤ g') →
          KeepsFrom (X.alloc (.cells #[(t.get x).ev] 41)).heap.size Y (w5.setCell ⟨W.heap.size, 0, none⟩ (.slice (some ⟨g', 0, none⟩) (ls.length + 1) cap')) ∧ Kq W.heap.size W.heap.size Y (w5.setCell ⟨W.heap.size, 0, none⟩ (.slice (some ⟨g', 0, none⟩) (ls.length + 1) cap')) ∧ BI W.heap.size W.heap.size W (accP t pre ++ (pre' ++ [y]).map fun j => ((t.get x).l.get j).bare) (w5.setCell ⟨W.heap.size, 0, none⟩ (.slice (some ⟨g', 0, none⟩) (ls.length + 1) cap')) ∧ (KeepsFrom W0.heap.size X (w5.setCell ⟨W.heap.size, 0, none⟩ (.slice (some ⟨g', 0, none⟩) (ls.length + 1) cap')) ∧ Kq W.heap.size W.heap.size X (w5.setCell ⟨W.heap.size, 0, none⟩ (.slice (some ⟨g', 0, none⟩) (ls.length + 1) cap')))) := fun v3 w3 w5 g' cap' hP hB hO hS _ => by
        obtain ⟨r1, r2, r3, r4, r5⟩ := body_end (u := ((t.get x).l.get y)) hzY (Nat.le_refl _) bxY usY hP (B1.out _ hB) hO hS
        refine ⟨r4.from _, r5, ⟨⟨_, _, r1, r2, ?_⟩, hbY.trans r3⟩, hi2.trans (r4.from _), hi3.trans r5⟩
        rw [List.map_append, hls]
        simp [Ue.bare_with]
      clear hls usY bxY hpu hi2 hi3 hBu
      gi_wp2_with fail
      refine region_round0 (by kernel_rfl) (by kernel_rfl) (by rintro ⟨a, w, h⟩; exact h) ?_
      refine wpAny_ready (rs := [0, 1]) (by kernel_rfl) (by simp) ?_
      refine AllReady.cons rfl (fun K hK => ?_) (AllReady.cons rfl (fun K hK => ?_) AllReady.nil)
      · go_simp
        refine hK _ _ ?_
        clear hK K
        refine wpAny_ready (rs := [1]) (by kernel_rfl) (by simp) ?_
        refine AllReady.cons rfl (fun K hK => ?_) AllReady.nil
        go_simp
        refine hK _ _ ?_
        clear hK K
        refine wpAny_ready (rs := [2]) (by kernel_rfl) (by simp) ?_
        refine AllReady.cons rfl (fun K hK => ?_) AllReady.nil
        go_simp
        refine (CP.out _ (Below.refl _ _).drew).mono ?_
        rintro e w3 ⟨v3, rfl, hP, hB⟩
        have q3 := hid (B1.out _ hB.out)
        have ct3 := CT.out _ q3.out
        have ht3 : W.heap.size < w3.heap.size := World.block_lt_of_cell? w3 _ ct3
        have ht3n : ¬ W.heap.size = w3.heap.size := by omega
        refine hK _ _ ?_
        clear hK K
        refine wpAny_ready (rs := [3]) (by kernel_rfl) (by simp) ?_
        refine AllReady.cons rfl (fun K hK => ?_) AllReady.nil
        go_simp
        refine hK _ _ ?_
        clear hK K
        refine wpAny_ready (rs := [4]) (by kernel_rfl) (by simp) ?_
        refine AllReady.cons rfl (fun K hK => ?_) AllReady.nil
        refine step_und2 (u := Ue.with ((t.get x).l.get y) v3) rfl _ _ rfl (OW.out _ q3.out _) HLL.out (hB4 _ q3.out _) (heap_alloc_new w3 _) hP.out.one rfl rfl ?_
        intro g' cap' w5 hO hS hN
        obtain ⟨ct5, ft5⟩ := C5.out _ _ _ q3.out hS.out
        refine hK _ _ ?_
        clear hK K
        refine wpAny_ready (rs := [5]) (by kernel_rfl) (by simp) ?_
        refine AllReady.cons rfl (fun K hK => ?_) AllReady.nil
        go_simp
        refine hK _ _ ?_
        clear hK K
        refine wpAny_done (by kernel_rfl) ?_ _
        exact FIN.out _ _ _ _ _ hP.out hB.out hO.out hS.out hN.out
      · go_simp
        refine hK _ _ ?_
        clear hK K
        refine wpAny_ready (rs := [0, 2]) (by kernel_rfl) (by simp) ?_
        refine AllReady.cons rfl (fun K hK => ?_) (AllReady.cons rfl (fun K hK => ?_) AllReady.nil)
        · go_simp
          refine hK _ _ ?_
          clear hK K
          refine wpAny_ready (rs := [2]) (by kernel_rfl) (by simp) ?_
          refine AllReady.cons rfl (fun K hK => ?_) AllReady.nil
          go_simp
          refine (CP.out _ (Below.refl _ _).drew).mono ?_
          rintro e w3 ⟨v3, rfl, hP, hB⟩
          have q3 := hid (B1.out _ hB.out)
          have ct3 := CT.out _ q3.out
          have ht3 : W.heap.size < w3.heap.size := World.block_lt_of_cell? w3 _ ct3
          have ht3n : ¬ W.heap.size = w3.heap.size := by omega
          refine hK _ _ ?_
          clear hK K
          refine wpAny_ready (rs := [3]) (by kernel_rfl) (by simp) ?_
          refine AllReady.cons rfl (fun K hK => ?_) AllReady.nil
          go_simp
          refine hK _ _ ?_
          clear hK K
          refine wpAny_ready (rs := [4]) (by kernel_rfl) (by simp) ?_
          refine AllReady.cons rfl (fun K hK => ?_) AllReady.nil
          refine step_und2 (u := Ue.with ((t.get x).l.get y) v3) rfl _ _ rfl (OW.out _ q3.out _) HLL.out (hB4 _ q3.out _) (heap_alloc_new w3 _) hP.out.one rfl rfl ?_
          intro g' cap' w5 hO hS hN
          obtain ⟨ct5, ft5⟩ := C5.out _ _ _ q3.out hS.out
          refine hK _ _ ?_
          clear hK K
          refine wpAny_ready (rs := [5]) (by kernel_rfl) (by simp) ?_
          refine AllReady.cons rfl (fun K hK => ?_) AllReady.nil
          go_simp
          refine hK _ _ ?_
          clear hK K
          refine wpAny_done (by kernel_rfl) ?_ _
          exact FIN.out _ _ _ _ _ hP.out hB.out hO.out hS.out hN.out
        · go_simp
          refine (CP.out _ (Below.refl _ _).drew).mono ?_
          rintro e w3 ⟨v3, rfl, hP, hB⟩
          have q3 := hid (B1.out _ hB.out)
          have ct3 := CT.out _ q3.out
          have ht3 : W.heap.size < w3.heap.size := World.block_lt_of_cell? w3 _ ct3
          have ht3n : ¬ W.heap.size = w3.heap.size := by omega
          refine hK _ _ ?_
          clear hK K
          refine wpAny_ready (rs := [0, 3]) (by kernel_rfl) (by simp) ?_
          refine AllReady.cons rfl (fun K hK => ?_) (AllReady.cons rfl (fun K hK => ?_) AllReady.nil)
          · go_simp
            refine hK _ _ ?_
            clear hK K
            refine wpAny_ready (rs := [3]) (by kernel_rfl) (by simp) ?_
            refine AllReady.cons rfl (fun K hK => ?_) AllReady.nil
            go_simp
            refine hK _ _ ?_
            clear hK K
            refine wpAny_ready (rs := [4]) (by kernel_rfl) (by simp) ?_
            refine AllReady.cons rfl (fun K hK => ?_) AllReady.nil
            refine step_und2 (u := Ue.with ((t.get x).l.get y) v3) rfl _ _ rfl (OW.out _ q3.out _) HLL.out (hB4 _ q3.out _) (heap_alloc_new w3 _) hP.out.one rfl rfl ?_
            intro g' cap' w5 hO hS hN
            obtain ⟨ct5, ft5⟩ := C5.out _ _ _ q3.out hS.out
            refine hK _ _ ?_
            clear hK K
            refine wpAny_ready (rs := [5]) (by kernel_rfl) (by simp) ?_
            refine AllReady.cons rfl (fun K hK => ?_) AllReady.nil
            go_simp
            refine hK _ _ ?_
            clear hK K
            refine wpAny_done (by kernel_rfl) ?_ _
            exact FIN.out _ _ _ _ _ hP.out hB.out hO.out hS.out hN.out
          · go_simp
            refine hK _ _ ?_
            clear hK K
            refine wpAny_ready (rs := [0]) (by kernel_rfl) (by simp) ?_
            refine AllReady.cons rfl (fun K hK => ?_) AllReady.nil
            go_simp
            refine hK _ _ ?_
            clear hK K
            refine wpAny_ready (rs := [4]) (by kernel_rfl) (by simp) ?_
            refine AllReady.cons rfl (fun K hK => ?_) AllReady.nil
            refine step_und2 (u := Ue.with ((t.get x).l.get y) v3) rfl _ _ rfl (OW.out _ q3.out _) HLL.out (hB4 _ q3.out _) (heap_alloc_new w3 _) hP.out.one rfl rfl ?_
            intro g' cap' w5 hO hS hN
            obtain ⟨ct5, ft5⟩ := C5.out _ _ _ q3.out hS.out
            refine hK _ _ ?_
            clear hK K
            refine wpAny_ready (rs := [5]) (by kernel_rfl) (by simp) ?_
            refine AllReady.cons rfl (fun K hK => ?_) AllReady.nil
            go_simp
            refine hK _ _ ?_
            clear hK K
            refine wpAny_done (by kernel_rfl) ?_ _
            exact FIN.out _ _ _ _ _ hP.out hB.out hO.out hS.out hN.out
    case done2 =>
      rintro ys Y rfl ⟨hi1, hi2, hi3⟩
      gi_wp2
      refine ⟨hi2, hi3, ?_⟩
      show BI _ _ _ (accP t (pre ++ [x])) Y
      rw [accP_snoc, ← row_all]
      exact hi1
    case stop2 =>
      rintro c pre' Y _ q
      exact q.elim
  case done =>
    rintro D ys Y hD rfl ⟨⟨lv, ls, bxY, usY, hls⟩, hbY⟩ hK
    rw [accP_all] at hls
    have ctY := bxY.cell
    have hT : Turn Odd W.heap.size Y (Y.putObj D (.deferred none)) := Turn.put _ (by omega) hK rfl
    have us2 : Us W.heap.size (Y.putObj D (.deferred none)) lv ls := us_grown usY (grownBy_putObj' Y D _) fun r e => by cases e; exact ⟨_, hK, rfl⟩
    have HU2 := hid us2
    have HB2 := hid (hbY.trans (hT.below hbY.size))
    have HLS2 := hid hls
    clear us2 hls usY hT
    gi_wp2
    refine ⟨by simp, .inl ⟨_, _, rfl, run_takeDeferred hK, ?_⟩⟩
    exact ⟨_, results_tmp rfl _ _ _, ⟨lv, ls, rfl, HU2.out, HLS2.out, HB2.out⟩⟩
  case stop =>
    rintro D c pre Y _ _ q _
    exact q.elim
end Go.Proofs.YtnbgjbdbbmpoaaaDoor.Jo
