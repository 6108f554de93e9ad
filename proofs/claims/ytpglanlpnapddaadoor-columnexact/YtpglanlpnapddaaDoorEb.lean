/- The document's Since, Push. -/
import Derived.Test.YtpglanlpnapddaaDoorEa
namespace Go.Proofs.YtpglanlpnapddaaDoor
open Go.RowKit Go.Shelf Go.Maps
set_option maxHeartbeats 1600000 in
set_option maxRecDepth 100000 in
theorem rsince_any {B : Nat} {W : World} {ub : Nat} {lv : Value} {s : CS} (h : Rc B W ub lv s) (f : Int) :
    Calls Tryd.prog 23 #[.pointer (some ⟨ub, 0, none⟩), .int .i64 f] W fun e W' => ∃ v, e = .returned v ∧ Ints W.heap.size W' v (since s.rows f s.rows.length) ∧ Below W.heap.size W W' := by
  have H := hid h
  have hsm := h.small
  have hsi : (s.rows.length : Int) ≤ 1000 := by omega
  have I0 : Hid (Ints W.heap.size (W.alloc (.cells #[] 3)) (.slice (some ⟨W.heap.size, 0, none⟩) 0 0) []) := World.ownsRow_lit (base := W.heap.size) (e := 3) (size := 1) W #[] 0 (Nat.le_refl _) (Nat.zero_le _) rfl
  obtain ⟨a, c, rfl⟩ := h.row.slice
  clear h
  go_enter Tryd.func23, Tryd.ntmps23
  go_wp2_with fail
  go_loopg [5, 6] s.rows.length (fun gh lw i wr => ∃ k : Nat, k ≤ s.rows.length ∧ gh = s.rows.length - k ∧ i = .int .i64 (k : Int) ∧ Hid (Ints W.heap.size wr lw (since s.rows f k)) ∧ Hid (Below W.heap.size W wr))
  case atStart => exact ⟨0, Nat.zero_le _, rfl, rfl, I0.out, bAl _ _⟩
  case round =>
    obtain ⟨k, hk, rfl, rfl, HL, HB⟩ := hrel
    have R1 := hid (H.out.later HB.out)
    have c2 := R1.out.c2
    by_cases hlt : k < s.rows.length
    · have hki : (k : Int) < (s.rows.length : Int) := by omega
      obtain ⟨p, hp⟩ := at_lt s.rows k hlt
      obtain ⟨g, rfl⟩ := R1.out.row.some (by omega)
      have q5 := (R1.out.row.cell hp).c5
      have htk : tickAt s.rows (k : Int) = p.t := by unfold tickAt; rw [rowAt_nat, hp]
      have e2 := hid (show since s.rows f (k + 1) = if f ≤ tickAt s.rows (k : Int) then since s.rows f k ++ [k] else since s.rows f k from rfl)
      rw [htk] at e2
      clear hp htk
      by_cases hge : f ≤ p.t
      · rw [if_pos hge] at e2
        have hul : (since s.rows f k).length ≤ 1000 := by have := since_len s.rows f k; omega
        have hw1 : W.heap.size ≤ wr.heap.size := HB.out.size
        obtain ⟨la, lc, rfl⟩ := Ints.slice HL.out
        go_wp2_with (at_builtin; refine wpList_num rfl _ _ rfl HL.out hul hw1 rfl rfl ?_; intro v' w2 ho hst)
        have b2 : Hid (Below W.heap.size W w2) := HB.out.trans (hst.out.below (fun x hx => (World.ownsRow.lt HL.out x hx).1) hw1)
        go_roundg (s.rows.length - (k + 1))
        case measure => omega
        case rel => exact ⟨k + 1, by omega, rfl, by go_num, by rw [e2.out]; exact ho.out, b2.out⟩
      · rw [if_neg hge] at e2
        go_wp2_with fail
        go_roundg (s.rows.length - (k + 1))
        case measure => omega
        case rel => exact ⟨k + 1, by omega, rfl, by go_num, by rw [e2.out]; exact HL.out, HB.out⟩
    · have hki : ¬ ((k : Int) < (s.rows.length : Int)) := by omega
      have e1 : Hid (k = s.rows.length) := by show k = _; omega
      go_wp2_with fail
      go_ret
      exact ⟨_, rfl, by rw [← e1.out]; exact HL.out, HB.out⟩
theorem part_one (cm : Int) (l : List Pt) : ∀ u ∈ partCells cm l, u.oneCell' = true := by
  intro u hu
  simp only [partCells, List.mem_flatMap] at hu
  obtain ⟨p, _, hp⟩ := hu
  simp [Pt.arr] at hp
  rcases hp with rfl | rfl | rfl | rfl | rfl | rfl <;> rfl
theorem partCells_len (cm : Int) (l : List Pt) : (partCells cm l).length = l.length * 6 := by
  induction l with
  | nil => rfl
  | cons x l ih =>
    have e : partCells cm (x :: l) = (x.arr cm).toList ++ partCells cm l := by simp [partCells]
    rw [e, List.length_append, ih]
    simp [Pt.arr]
    omega
theorem partCells_app (cm : Int) (l m : List Pt) : partCells cm (l ++ m) = partCells cm l ++ partCells cm m := by simp [partCells]
/-- A row of parts that another row of parts is put behind. -/
theorem run_parts {B N : Nat} {wc : World} {v sv : Value} {cm : Int} {xs ns : List Pt} (hown : Parts N wc v cm xs) (hsrc : Parts B wc sv cm ns) (hl : xs.length + ns.length ≤ 2000) (hN : N ≤ wc.heap.size) (ty : TypeId) :
    ∃ v' w', (Builtin.append_ #[51, 51] ty #[v, sv]).run Tryd.prog wc = .ok v' w' ∧ Parts N w' v' cm (xs ++ ns) ∧ wc.grownBy w' v.ownBlock := by
  obtain ⟨i0, hi, hz0, hz1, hz2⟩ := info_parts infoPart
  rcases hsrc.2 with ⟨h1, h2⟩ | ⟨g, cap, cur, h1, h2, h3, h4, h5, h6, h7⟩
  · have hn : ns = [] := List.eq_nil_of_length_eq_zero h2
    subst hn
    rw [h1]
    refine ⟨v, wc, run_append_owned_none wc N 51 ty 34 i0 6 Tryd.underlying51 hi v xs.length (partCells cm xs) hown, by rw [List.append_nil]; exact hown, ⟨rfl, rfl, rfl, Nat.le_refl _, fun _ _ _ => rfl⟩⟩
  · rw [h1]
    have hc := hsrc
    rw [h1] at hc
    obtain ⟨v', w', hr, h8, h9, -, -⟩ := run_append_own_at (P := Tryd.prog) wc N 51 ty 34 i0 (.agg #[.int .i64 0, .int .i64 0, .int .i64 0, .int .i64 0, .int .i64 0, .int .i64 0]) 6 48 Tryd.underlying51 hi hz0 hz1 hz2 rfl (by decide) v xs.length (partCells cm xs) hown ⟨g, 0, none⟩ ns.length cap (partCells cm ns) (partCells_len cm ns) (fun j u hu => by
      rw [add_at]
      have hj : j < ns.length * 6 := by have := (List.getElem?_eq_some_iff.1 hu).1; rw [partCells_len] at this; exact this
      rw [World.ownsRow.cellAt hc j hj]; exact hu) (part_one cm ns) (by unfold maxLen; omega) (by omega) hN
    refine ⟨v', w', hr, ?_, h9⟩
    show World.ownsRow _ _ _ _ _ _ _
    rw [partCells_app, List.length_append]
    exact h8
/-- .. within a region that draws. -/
theorem step_parts {ops : Array Oper} {o : Oper} {a : Act} {K : Act → World → Prop} {Q : Exit → Act → World → Prop} {E : Prop} (hgd : o.guard = none) (s x : Operand)
    (ho : o.op = .call { callee := .builtin .append, args := #[s, x], argTypes := #[51, 51] }) {B : Nat} {w2 wc : World} {v sv : Value} {cm : Int} {xs ns : List Pt} (hb : Below w2.heap.size w2 wc) (hown : Parts w2.heap.size wc v cm xs) (hsrc : Parts B wc sv cm ns)
    (hl : xs.length + ns.length ≤ 2000) (hs : a.eval s = v) (hx : a.eval x = sv)
    (h : ∀ v' w4, Hid (Parts w2.heap.size w4 v' cm (xs ++ ns)) → Hid (Below w2.heap.size w2 w4) → Hid (∀ b, b < wc.heap.size → v.ownBlock ≠ some b → w4.heap[b]? = wc.heap[b]?) → K (a.put o.dst v') w4) :
    if Region.wanted o (yielded ops a.tmps) = true then Oper.wp Tryd.prog o a wc K Q else E := by
  have hw : Region.wanted o (yielded ops a.tmps) = true := by simp [Region.wanted, hgd]
  rw [if_pos hw]
  obtain ⟨v', w', hr, h2, h3⟩ := run_parts hown hsrc hl hb.size o.type
  unfold Oper.wp
  simp [execOp, ho, resolve, invoke, builtin, hs, hx, hr, Result.andThen]
  exact h v' w' h2 (hb.grown h3 hb.size fun k hk => (World.ownsRow.lt hown k hk).1) fun b hb' hne => h3.block b hb' (fun e => hne e.symm)
theorem wpList_parts {ops : Array Oper} {rest : List Oper} {o : Oper} {a : Act} {Q : Exit → Act → World → Prop} (hgd : o.guard = none) (s x : Operand)
    (ho : o.op = .call { callee := .builtin .append, args := #[s, x], argTypes := #[51, 51] }) {B : Nat} {w2 wc : World} {v sv : Value} {cm : Int} {xs ns : List Pt} (hb : Below w2.heap.size w2 wc) (hown : Parts w2.heap.size wc v cm xs) (hsrc : Parts B wc sv cm ns)
    (hl : xs.length + ns.length ≤ 2000) (hs : a.eval s = v) (hx : a.eval x = sv)
    (h : ∀ v' w4, Hid (Parts w2.heap.size w4 v' cm (xs ++ ns)) → Hid (Below w2.heap.size w2 w4) → wpList Tryd.prog ops Q rest (a.put o.dst v') w4) :
    wpList Tryd.prog ops Q (o :: rest) a wc := by
  refine wpList_plain hgd fun K hK => ?_
  obtain ⟨v', w', hr, h2, h3⟩ := run_parts hown hsrc hl hb.size o.type
  unfold Oper.wp
  simp [execOp, ho, resolve, invoke, builtin, hs, hx, hr, Result.andThen]
  exact hK _ _ (h v' w' h2 (hb.grown h3 hb.size fun k hk => (World.ownsRow.lt hown k hk).1))
end Go.Proofs.YtpglanlpnapddaaDoor
