/- The document's journal: New, last, Mark. -/
import Derived.Test.YtnbgjbdbbmpoaaaDoorJoRa
namespace Go.Proofs.YtnbgjbdbbmpoaaaDoor.Jo
open Go.RowKit Go.Shelf Go.Maps
/-- append of a whole row of numbers onto an empty one. -/
theorem wpList_cpn {ops : Array Oper} {rest : List Oper} {o : Oper} {a : Act} {Q : Exit → Act → World → Prop} (hgd : o.guard = none) (s x : Operand)
    (ho : o.op = .call { callee := .builtin .append, args := #[s, x], argTypes := #[53, 53] }) {B : Nat} {W : World} {sv : Value} {ns : List Int} (hsrc : Ns B W sv ns) (hl : ns.length ≤ 100000)
    (hs : a.eval s = .slice (some ⟨W.heap.size, 0, none⟩) 0 0) (hx : a.eval x = sv)
    (h : ∀ v' w', Hid (Ns W.heap.size w' v' ns) → Hid (Below W.heap.size W w') → wpList Tryd.prog ops Q rest (a.put o.dst v') w') :
    wpList Tryd.prog ops Q (o :: rest) a (W.alloc (.cells #[] 3)) := by
  obtain ⟨i0, hi, hz0, hz1, hz2⟩ := info_parts infoIntJ
  obtain ⟨v', w', hr, h2, h3⟩ := run_cp Tryd.underlying53 hi hz0 hz1 hz2 rfl (by decide) (by decide) hsrc (by intro u hu; obtain ⟨x, _, rfl⟩ := List.mem_map.1 hu; rfl) hl o.type
  refine wpList_plain hgd fun K hK => ?_
  unfold Oper.wp execOp
  simp only [ho, resolve, invoke, builtin, Sem.run_bind, Sem.run_pure, Result.andThen_ok, List.map_toArray, List.map_cons, List.map_nil, hs, hx, hr]
  exact hK _ _ (h v' w' h2 h3)
/-- The document's journal in memory. -/
structure Rj (B : Nat) (W : World) (ub : Nat) (mv lv : Value) (most : Nat) (ms : List Int) (es : List En) : Prop where
  box : W.heap[ub]? = some (.cells #[.int .i64 (most : Int), mv, lv] 56 (0, 0))
  low : B ≤ ub
  marks : Ns B W mv ms
  ents : Eo B W lv es
/-- The document's journal, wherever its rows lie. -/
def Rw (B ub most : Nat) (ms : List Int) (es : List En) (W : World) : Prop := ∃ mv lv, Rj B W ub mv lv most ms es
section
variable {B : Nat} {W W' : World} {ub : Nat} {mv lv : Value} {most : Nat} {ms : List Int} {es : List En}
theorem Rj.kept {T : Nat → Prop} (h : Rj B W ub mv lv most ms es) (hs : St T W W') (hn : ¬ T ub) (hm : ∀ k, mv.ownBlock = some k → ¬ T k) (hl : ∀ k, lv.ownBlock = some k → ¬ T k) : Rj B W' ub mv lv most ms es :=
  ⟨hs.at h.box hn, h.low, h.marks.kept hs hm, h.ents.kept hs hl⟩
theorem Rj.later (h : Rj B W ub mv lv most ms es) (hb : Below W.heap.size W W') : Rj B W' ub mv lv most ms es := h.kept (T := fun _ => False) (St.of_below hb) (fun q => q) (fun _ _ q => q) fun _ _ q => q
theorem Rj.lt (h : Rj B W ub mv lv most ms es) : ub < W.heap.size := (Array.getElem?_eq_some_iff.1 h.box).1
theorem Rj.c0 (h : Rj B W ub mv lv most ms es) : W.cell? ⟨ub, 0, none⟩ = some (.int .i64 (most : Int)) := cell_blk h.box rfl
theorem Rj.c1 (h : Rj B W ub mv lv most ms es) : W.cell? ⟨ub, 1, none⟩ = some mv := cell_blk h.box rfl
theorem Rj.c2 (h : Rj B W ub mv lv most ms es) : W.cell? ⟨ub, 2, none⟩ = some lv := cell_blk h.box rfl
theorem Rw.later (h : Rw B ub most ms es W) (hb : Below W.heap.size W W') : Rw B ub most ms es W' := by
  obtain ⟨mv, lv, h⟩ := h
  exact ⟨mv, lv, h.later hb⟩
theorem Rj.nm (h : Rj B W ub mv lv most ms es) {k : Nat} (hk : mv.ownBlock = some k) : k ≠ ub := by
  obtain ⟨-, cur, hc⟩ := h.marks.typ hk
  rintro rfl
  rw [h.box] at hc
  simp at hc
theorem Rj.nl (h : Rj B W ub mv lv most ms es) {k : Nat} (hk : lv.ownBlock = some k) : k ≠ ub := by
  obtain ⟨-, cur, hc⟩ := own_typ h.ents.1 hk
  rintro rfl
  rw [h.box] at hc
  simp at hc
/-- Other marks in its place. -/
theorem Rj.renew1 {w1 : World} {mv' : Value} {ms' : List Int} (h : Rj B w1 ub mv lv most ms es) (hm : Ns B w1 mv' ms') : Rj B (w1.setCell ⟨ub, 1, none⟩ mv') ub mv' lv most ms' es ∧ St (fun k => k = ub) w1 (w1.setCell ⟨ub, 1, none⟩ mv') := by
  have s : St (fun k => k = ub) w1 (w1.setCell ⟨ub, 1, none⟩ mv') := St.setCell _ rfl
  have hk : ∀ k, mv'.ownBlock = some k → k ≠ ub := by
    intro k hk
    obtain ⟨-, cur, hc⟩ := hm.typ hk
    rintro rfl
    rw [h.box] at hc
    simp at hc
  exact ⟨⟨by rw [heap_setCell_same w1 ub 1 _ _ mv' h.box]; rfl, h.low, hm.kept s hk, h.ents.kept s fun k hk => h.nl hk⟩, s⟩
theorem Rj.renew2 {w1 : World} {lv' : Value} {es' : List En} (h : Rj B w1 ub mv lv most ms es) (hm : Eo B w1 lv' es') : Rj B (w1.setCell ⟨ub, 2, none⟩ lv') ub mv lv' most ms es' ∧ St (fun k => k = ub) w1 (w1.setCell ⟨ub, 2, none⟩ lv') := by
  have s : St (fun k => k = ub) w1 (w1.setCell ⟨ub, 2, none⟩ lv') := St.setCell _ rfl
  have hk : ∀ k, lv'.ownBlock = some k → k ≠ ub := by
    intro k hk
    obtain ⟨-, cur, hc⟩ := own_typ hm.1 hk
    rintro rfl
    rw [h.box] at hc
    simp at hc
  exact ⟨⟨by rw [heap_setCell_same w1 ub 2 _ _ lv' h.box]; rfl, h.low, h.marks.kept s fun k hk => h.nm hk, hm.kept s hk⟩, s⟩
set_option maxHeartbeats 800000 in
theorem rnew_bad (m : Int) (hm : m < 1 ∨ 65536 < m) (W : World) :
    Calls Tryd.prog 10 #[.int .i64 m] W fun e W' => e = .returned (.pointer none) ∧ W' = W := by
  by_cases h0 : m < 1
  · clear hm
    go_enter Tryd.func10, Tryd.ntmps10
    go_wp2_with fail
    go_ret
    exact ⟨rfl, rfl⟩
  · have h1 : 65536 < m := by omega
    clear hm
    go_enter Tryd.func10, Tryd.ntmps10
    go_wp2_with fail
    go_ret
    exact ⟨rfl, rfl⟩
set_option maxHeartbeats 800000 in
theorem rnew_ok (W : World) (most : Nat) (h1 : 1 ≤ most) (h2 : most ≤ 65536) :
    Calls Tryd.prog 10 #[.int .i64 (most : Int)] W fun e W' => e = .returned (.pointer (some ⟨W.heap.size, 0, none⟩)) ∧ Rw W.heap.size W.heap.size most [] [] W' ∧ Below W.heap.size W W' := by
  have a : ¬ (most : Int) < 1 := by omega
  have b : ¬ 65536 < (most : Int) := by omega
  go_enter Tryd.func10, Tryd.ntmps10
  go_wp2_with fail
  go_ret
  exact ⟨rfl, ⟨_, _, heap_alloc_new W _, Nat.le_refl _, World.ownsRow_nil _ _ _ _, World.ownsRow_nil _ _ _ _, fun _ h => by simp at h⟩, bAl _ _⟩
/-- The last mark. -/
def lastM (ms : List Int) : Int := ms.getLast?.getD (-1)
set_option maxHeartbeats 800000 in
theorem rlast_any (h : Rj B W ub mv lv most ms es) (hl : ms.length ≤ 100000) :
    Calls Tryd.prog 32 #[.pointer (some ⟨ub, 0, none⟩)] W fun e W' => e = .returned (.int .i64 (lastM ms)) ∧ Below W.heap.size W W' := by
  have c1 := h.c1
  by_cases h0 : ms = []
  · subst h0
    have R : Hid (lastM [] = -1) := rfl
    obtain ⟨a, c, rfl⟩ := h.marks.slice
    clear h
    go_enter Tryd.func32, Tryd.ntmps32
    go_wp2_with fail
    go_ret
    exact ⟨by rw [R.out]; rfl, Below.refl _ _⟩
  · obtain ⟨l, s, rfl⟩ : ∃ l s, ms = l ++ [s] := ⟨ms.dropLast, ms.getLast h0, (List.dropLast_concat_getLast h0).symm⟩
    have R : Hid (lastM (l ++ [s]) = s) := by show _ = _; simp [lastM]
    obtain ⟨a, c, rfl⟩ := h.marks.slice
    obtain ⟨g, rfl, d0, -⟩ := h.marks.at (j := l.length) (x := s) (by simp)
    have hl1 : (l ++ [s]).length = l.length + 1 := by simp
    rw [hl1] at c1 hl
    have hli : (l.length : Int) ≤ 100000 := by omega
    have e1 : ((l.length + 1 : Nat) : Int) - 1 = (l.length : Int) := by omega
    have hne : ¬ ((l.length : Int) + 1 = 0) := by omega
    have hnb : (((l.length : Int) + 1) == 0) = false := beq_eq_false_iff_ne.2 hne
    clear h hl1 h0
    go_enter Tryd.func32, Tryd.ntmps32
    go_wp2_with fail
    go_quiet (fail)
    go_wp2_with fail
    go_ret
    exact ⟨by rw [R.out]; rfl, drewN_below _ _⟩
end
end Go.Proofs.YtnbgjbdbbmpoaaaDoor.Jo
