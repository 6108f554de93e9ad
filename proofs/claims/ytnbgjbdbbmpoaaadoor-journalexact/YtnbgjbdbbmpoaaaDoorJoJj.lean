/- A journal: an entry more (add). -/
import Derived.Test.YtnbgjbdbbmpoaaaDoorJoJi
namespace Go.Proofs.YtnbgjbdbbmpoaaaDoor.Jo
open Go.RowKit Go.Shelf Go.Maps
theorem own_st {B : Nat} {W W' : World} {e : TypeId} {sz : Nat} {v : Value} {n : Nat} {xs : List Value} {T : Nat → Prop} (h : W.ownsRow B e sz v n xs) (hs : St T W W') (hn : ∀ k, v.ownBlock = some k → ¬ T k) : W'.ownsRow B e sz v n xs :=
  ⟨h.1, h.2.elim .inl fun ⟨g, cap, cur, h1, h2, h3, h4⟩ => .inr ⟨g, cap, cur, h1, h2, hs.at h3 (hn g (by rw [h1]; rfl)), h4⟩⟩
/-- append of one entry, wherever it lies. -/
theorem step_und {ops : Array Oper} {o : Oper} {a : Act} {K : Act → World → Prop} {Q : Exit → Act → World → Prop} {E : Prop} (hgd : o.guard = none) (s x : Operand)
    (ho : o.op = .call { callee := .builtin .append, args := #[s, x], argTypes := #[41, 41] }) {B pb : Nat} {wc : World} {v : Value} {l : List Ue} {u : Ue} (hown : wc.ownsRow B 38 11 v l.length (uCells l)) (hl : l.length ≤ 70000) (hB : B ≤ wc.heap.size) (hpb : wc.heap[pb]? = some (.cells u.arr 38 (0, 0))) (hone : u.pv.oneCell' = true)
    (hs : a.eval s = v) (hx : a.eval x = .slice (some ⟨pb, 0, none⟩) 1 1)
    (h : ∀ g' cap w2, Hid (w2.ownsRow B 38 11 (.slice (some ⟨g', 0, none⟩) (l.length + 1) cap) (l.length + 1) (uCells (l ++ [u]))) → Hid (St (fun x => v.ownBlock = some x) wc w2) → Hid (v.ownBlock = some g' ∨ wc.heap.size ≤ g') → K (a.put o.dst (.slice (some ⟨g', 0, none⟩) (l.length + 1) cap)) w2) :
    if Region.wanted o (yielded ops a.tmps) = true then Oper.wp Tryd.prog o a wc K Q else E := by
  obtain ⟨i0, hi, hz0, hz1, hz2⟩ := info_parts infoUndo
  refine step_append_lies _ hgd s x 41 ho B 38 i0 _ 11 104 Tryd.underlying41 hi hz0 hz1 hz2 rfl (by decide) v l.length (uCells l) hs hown ⟨pb, 0, none⟩ 1 1 u.arr.toList hx rfl (fun j u' hu => by
    rw [add_at]
    exact cell_blk hpb (by simpa using hu)) (by intro q hq; simp [Ue.arr] at hq; rcases hq with rfl | rfl | rfl | rfl | rfl | rfl | rfl | rfl | rfl | rfl | rfl <;> first | rfl | exact hone) (by decide) (by unfold maxLen; omega) (by omega) hB wc.heap.size rfl ?_
  intro g' cap w2 ow hg hat hlt
  refine h _ _ w2 ?_ (St.of_grown (S := fun x => v.ownBlock = some x) hg fun k e => e) ?_
  · show World.ownsRow _ _ _ _ _ _ _
    rw [uCells_snoc]
    exact ow
  · rcases hat with h1 | h1
    · exact .inl h1
    · exact .inr (by omega)
/-- A journal but for what was told. -/
structure Jp (B : Nat) (W : World) (jb : Nat) (sv mv : Value) (most : Nat) (st : List Sx) : Prop where
  box : W.heap[jb]? = some (.cells #[.int .i64 (most : Int), .int .i64 (tot st : Int), sv, mv] 68 (0, 0))
  row : Lie W 75 2 sv st.length (sCells st)
  ents : ∀ s ∈ st, Us B W s.ev s.l
  apart : (st.filterMap fun s => s.ev.ownBlock).Nodup
  up : (st.map Sx.f).Pairwise (· < ·)
  rng : ∀ s ∈ st, 0 ≤ s.f ∧ s.f ≤ 1073741824
  good : ∀ s ∈ st, ∀ u ∈ s.l, u.ok ∧ 1 ≤ u.k ∧ u.k ≤ 9 ∧ u.ps.length ≤ 1000
  few : tot st ≤ most ∧ most ≤ 65536
  slow : ∀ k, sv.ownBlock = some k → B ≤ k
  mlow : ∀ k, mv = .map (some k) → B ≤ k
theorem Jp.full {B : Nat} {W : World} {jb : Nat} {sv mv : Value} {most : Nat} {a : List Sx} {s : Sx} {mb : Nat} (h : Jp B W jb sv mv most (a ++ [s])) (hm : mv = .map (some mb)) (ht : Mt W mb s.l) : Jn B W jb sv mv most (a ++ [s]) :=
  ⟨h.box, h.row, h.ents, h.apart, fun a' s' e => by
    obtain ⟨-, e2⟩ := List.append_inj' e rfl
    simp at e2
    subst e2
    exact ⟨mb, hm, ht⟩, h.up, h.rng, h.good, h.few, h.slow, h.mlow⟩
theorem Jp.kept {B : Nat} {W W' : World} {jb : Nat} {sv mv : Value} {most : Nat} {st : List Sx} {mb : Nat} (h : Jp B W jb sv mv most st) (hs : St (fun k => k = mb) W W') (hm : ∃ es cl, W.heap[mb]? = some (.map es cl)) : Jp B W' jb sv mv most st := by
  obtain ⟨es, cl, hm⟩ := hm
  refine ⟨hs.at h.box ?_, h.row.kept hs fun k hk => ?_, fun s hx => (h.ents s hx).kept hs (fun k hk => ?_) fun u hu k hk => ?_, h.apart, h.up, h.rng, h.good, h.few, h.slow, h.mlow⟩
  · rintro rfl; rw [h.box] at hm; cases hm
  · obtain ⟨c, q⟩ := h.row.typ hk
    rintro rfl; rw [q] at hm; cases hm
  · obtain ⟨-, c, q⟩ := (h.ents s hx).typ hk
    rintro rfl; rw [q] at hm; cases hm
  · obtain ⟨c, q⟩ := ((h.ents s hx).2 u hu).at hk
    rintro rfl; rw [q] at hm; cases hm
section
variable {B : Nat} {W W' : World} {jb : Nat} {sv mv : Value} {most : Nat} {st : List Sx} {Ad : Nat → Addr}
/-- What an entry more changes. -/
def Fn (jb : Nat) (sv mv : Value) (s : Sx) (k : Nat) : Prop := k = jb ∨ sv.ownBlock = some k ∨ mv = .map (some k) ∨ s.ev.ownBlock = some k
theorem put_last (a : List Sx) (s : Sx) (v : Value) (l : List Ue) : (sCells (a ++ [s])).set (a.length * 2 + 1) v = sCells (a ++ [⟨s.f, v, l⟩]) := by
  rw [sCells_snoc, sCells_snoc, List.set_append_right _ _ (by rw [sCells_len]; omega), sCells_len]
  rw [show a.length * 2 + 1 - a.length * 2 = 1 by omega]
  rfl
/-- What an entry more leaves, but for what is told. -/
theorem Jn.noted {a : List Sx} {s : Sx} {g off cap g' cap' : Nat} {u : Ue} {v' : Value} {w3 w5 w7 : World} (h : Jn B W jb (.slice (some ⟨g, off, none⟩) (a.length + 1) cap) mv most (a ++ [s])) (hB : B ≤ W.heap.size) (hu : u.ok) (h0 : 1 ≤ u.k) (h9 : u.k ≤ 9) (hps : u.ps.length ≤ 1000) (hf : tot (a ++ [s]) < most)
    (hb : Below W.heap.size W w3) (hp : Prts W.heap.size w3 v' u.ps) (ho : w5.ownsRow B 38 11 (.slice (some ⟨g', 0, none⟩) (s.l.length + 1) cap') (s.l.length + 1) (uCells (s.l ++ [u.with v']))) (hs : St (fun x => s.ev.ownBlock = some x) w3 w5) (hn : s.ev.ownBlock = some g' ∨ w3.heap.size ≤ g')
    (e7 : w7 = (w5.setCell ⟨g, off + a.length * 2 + 1, none⟩ (.slice (some ⟨g', 0, none⟩) (s.l.length + 1) cap')).setCell ⟨jb, 1, none⟩ (.int .i64 ((tot (a ++ [s]) : Int) + 1))) :
    Jp B w7 jb (.slice (some ⟨g, off, none⟩) (a.length + 1) cap) mv most (a ++ [⟨s.f, .slice (some ⟨g', 0, none⟩) (s.l.length + 1) cap', s.l ++ [u.with v']⟩]) ∧ (∃ mb, mv = .map (some mb) ∧ Mt w7 mb s.l) ∧ St (Fn jb (.slice (some ⟨g, off, none⟩) (a.length + 1) cap) mv s) W w7 := by
  have j3 := h.later hb
  have hsm : s ∈ a ++ [s] := by simp
  have us3 := j3.ents s hsm
  have hgrow : (Value.slice (some ⟨g, off, none⟩) (a.length + 1) cap).ownBlock = some g := rfl
  obtain ⟨cg, tg⟩ := j3.row.typ hgrow
  have ne_ev : ∀ k, s.ev.ownBlock = some k → k ≠ jb ∧ k ≠ g := fun k hk => by
    obtain ⟨-, c, q⟩ := us3.typ hk
    constructor
    · rintro rfl; rw [j3.box] at q; simp at q
    · rintro rfl; rw [tg] at q; simp at q
  have hjg : jb ≠ g := by rintro rfl; rw [j3.box] at tg; simp at tg
  have b5 := hs.at j3.box fun q => (ne_ev _ q).1 rfl
  have l5 := j3.row.kept hs fun k hk q => by
    obtain rfl : g = k := by simpa [Value.ownBlock] using hk
    exact (ne_ev _ q).2 rfl
  rw [show (a ++ [s]).length = a.length + 1 by simp] at l5
  have l6 := l5.put (a.length * 2 + 1) (.slice (some ⟨g', 0, none⟩) (s.l.length + 1) cap') (by omega)
  rw [← Nat.add_assoc] at l6
  rw [put_last a s _ (s.l ++ [u.with v'])] at l6
  obtain ⟨w6, e6⟩ : ∃ w6, w6 = w5.setCell ⟨g, off + a.length * 2 + 1, none⟩ (.slice (some ⟨g', 0, none⟩) (s.l.length + 1) cap') := ⟨_, rfl⟩
  rw [← e6] at l6 e7
  have s6 : St (fun k => k = g) w5 w6 := by rw [e6]; exact St.setCell _ rfl
  have s7 : St (fun k => k = jb) w6 w7 := by rw [e7]; exact St.setCell _ rfl
  have b6 := s6.at b5 hjg
  have b7 := heap_setCell_same w6 jb 1 _ _ (.int .i64 ((tot (a ++ [s]) : Int) + 1)) b6
  rw [← e7] at b7
  have s57 : St (fun k => k = g ∨ k = jb) w5 w7 := by
    have q : St (fun k => k = g ∨ k = jb) w5 w6 := ⟨s6.os, s6.tape, s6.output, s6.size, fun k hk n => s6.block k hk fun e => n (.inl e)⟩
    exact q.trans s7 fun _ _ e => .inr e
  have s37 : St (fun k => k = g ∨ k = jb ∨ s.ev.ownBlock = some k) w3 w7 := by
    have q : St (fun k => k = g ∨ k = jb ∨ s.ev.ownBlock = some k) w3 w5 := ⟨hs.os, hs.tape, hs.output, hs.size, fun k hk n => hs.block k hk fun e => n (.inr (.inr e))⟩
    exact q.trans s57 fun _ _ e => e.elim .inl fun e => .inr (.inl e)
  have g'3 : ∃ c, w5.heap[g']? = some (.cells c 38 (0, 0)) := by
    obtain ⟨g2, c2, cur, q1, q2, q3, -⟩ := ho.2.resolve_left (by simp)
    simp at q1
    obtain ⟨rfl, -⟩ := q1
    exact ⟨cur, q3⟩
  obtain ⟨cg', tg'⟩ := g'3
  have ne_g' : g' ≠ jb ∧ g' ≠ g := by
    constructor
    · rintro rfl; rw [b5] at tg'; simp at tg'
    · rintro rfl
      obtain ⟨c, q⟩ := l5.typ hgrow
      rw [q] at tg'; simp at tg'
  have prt : ∀ {B'} {v : Value} {l : List Prt}, Prts B' w3 v l → Prts B' w7 v l := fun {B'} {v} {l} hq => hq.kept s37 fun k hk => by
    obtain ⟨c, q⟩ := hq.at hk
    rintro (rfl | rfl | e)
    · rw [tg] at q; simp at q
    · rw [j3.box] at q; simp at q
    · obtain ⟨-, c2, q2⟩ := us3.typ e
      rw [q2] at q; simp at q
  refine ⟨⟨?_, ?_, ?_, ?_, ?_, ?_, ?_, ?_, h.slow, h.mlow⟩, ?_, ?_⟩
  · rw [b7, tot_snoc, tot_snoc, List.length_append]
    simp
    omega
  · rw [List.length_append]
    exact l6.kept s7 fun k hk q => by
      obtain rfl : g = k := by simpa [Value.ownBlock] using hk
      exact hjg q.symm
  · intro t ht
    rcases List.mem_append.1 ht with ht | ht
    · have ut := j3.ents t (List.mem_append_left _ ht)
      refine ut.kept s37 (fun k hk => ?_) fun u' hu' k hk => ?_
      · obtain ⟨-, c, q⟩ := ut.typ hk
        rintro (rfl | rfl | e)
        · rw [tg] at q; simp at q
        · rw [j3.box] at q; simp at q
        · have hap := h.apart
          rw [List.filterMap_append, List.nodup_append] at hap
          exact hap.2.2 k (List.mem_filterMap.2 ⟨t, ht, hk⟩) k (by simp [e]) rfl
      · obtain ⟨c, q⟩ := (ut.2 u' hu').at hk
        rintro (rfl | rfl | e)
        · rw [tg] at q; simp at q
        · rw [j3.box] at q; simp at q
        · obtain ⟨-, c2, q2⟩ := us3.typ e
          rw [q2] at q; simp at q
    · simp at ht
      subst ht
      refine ⟨?_, fun u' hu' => ?_⟩
      · show World.ownsRow _ _ _ _ _ _ _
        rw [List.length_append]
        exact own_st ho s57 fun k hk => by
          obtain rfl : g' = k := by simpa [Value.ownBlock] using hk
          rintro (e | e)
          · exact ne_g'.2 e
          · exact ne_g'.1 e
      · rcases List.mem_append.1 hu' with hu' | hu'
        · exact prt (us3.2 u' hu')
        · simp at hu'
          subst hu'
          exact (prt hp).lower hB
  · have hap := h.apart
    rw [List.filterMap_append, List.nodup_append] at hap ⊢
    refine ⟨hap.1, by simp [Value.ownBlock], fun x hx y hy e => ?_⟩
    simp [Value.ownBlock] at hy
    subst hy
    subst e
    obtain ⟨t, ht, hk⟩ := List.mem_filterMap.1 hx
    rcases hn with q | q
    · exact hap.2.2 x hx x (by simp [q]) rfl
    · have := (j3.ents t (List.mem_append_left _ ht)).1.lt x hk
      omega
  · have := h.up
    rw [List.map_append] at this ⊢
    exact this
  · intro t ht
    rcases List.mem_append.1 ht with ht | ht
    · exact h.rng t (List.mem_append_left _ ht)
    · simp at ht
      subst ht
      exact h.rng s hsm
  · intro t ht u' hu'
    rcases List.mem_append.1 ht with ht | ht
    · exact h.good t (List.mem_append_left _ ht) u' hu'
    · simp at ht
      subst ht
      rcases List.mem_append.1 hu' with hu' | hu'
      · exact h.good s hsm u' hu'
      · simp at hu'
        subst hu'
        exact ⟨hu, h0, h9, hps⟩
  · refine ⟨?_, h.few.2⟩
    rw [tot_snoc] at hf ⊢
    rw [List.length_append]
    simp
    omega
  · obtain ⟨mb, e, hm⟩ := j3.told a s rfl
    obtain ⟨es, cl, q⟩ := hm.obj
    refine ⟨mb, e, hm.kept s37 ?_⟩
    rintro (rfl | rfl | e)
    · rw [tg] at q; cases q
    · rw [j3.box] at q; cases q
    · obtain ⟨-, c2, q2⟩ := us3.typ e
      rw [q2] at q; cases q
  · exact (St.of_below (S := Fn jb (.slice (some ⟨g, off, none⟩) (a.length + 1) cap) mv s) hb).trans s37 fun k _ e => by
      rcases e with rfl | rfl | e
      · exact .inr (.inl rfl)
      · exact .inl rfl
      · exact .inr (.inr (.inr e))
end
end Go.Proofs.YtnbgjbdbbmpoaaaDoor.Jo
