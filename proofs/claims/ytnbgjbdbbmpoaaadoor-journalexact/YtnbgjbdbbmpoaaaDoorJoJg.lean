/- A journal: an entry with a list of parts of its own. -/
import Derived.Test.YtnbgjbdbbmpoaaaDoorJoJe
import Derived.Test.YtnbgjbdbbmpoaaaDoorJoJf
namespace Go.Proofs.YtnbgjbdbbmpoaaaDoor.Jo
open Go.RowKit Go.Shelf Go.Maps
/-- Parts that can be read and copied. -/
def PSrc (W : World) (v : Value) (l : List Prt) : Prop := (v = .slice none 0 0 ∧ l = []) ∨ ∃ ad c, v = .slice (some ad) l.length c ∧ (l = [] ∨ ∃ b o, ad = ⟨b, o, none⟩ ∧ ∀ (j : Nat) p, l[j]? = some p → Six W b (o + j * 6) p)
theorem PSrc.row {W : World} {v : Value} {l : List Prt} (h : PSrc W v l) : PRow W v l := by
  rcases h with ⟨rfl, rfl⟩ | ⟨ad, c, rfl, h⟩
  · exact ⟨none, 0, rfl, .inl rfl⟩
  · refine ⟨some ad, c, rfl, h.imp id ?_⟩
    rintro ⟨b, o, rfl, q⟩
    exact ⟨b, o, rfl, q⟩
theorem PSrc.later {W W' : World} {v : Value} {l : List Prt} (h : PSrc W v l) (hb : Below W.heap.size W W') : PSrc W' v l :=
  h.imp id fun ⟨ad, c, h1, h2⟩ => ⟨ad, c, h1, h2.imp id fun ⟨b, o, h3, h4⟩ => ⟨b, o, h3, fun j p hj => (h4 j p hj).later hb⟩⟩
theorem Prts.src {B : Nat} {W : World} {v : Value} {l : List Prt} (h : Prts B W v l) : PSrc W v l := by
  obtain ⟨a, c, e, q⟩ := h.row
  rcases h.2 with ⟨rfl, h0⟩ | ⟨g, cap, cur, rfl, -⟩
  · exact .inl ⟨rfl, List.eq_nil_of_length_eq_zero h0⟩
  · refine .inr ⟨⟨g, 0, none⟩, cap, rfl, q.imp id ?_⟩
    rintro ⟨b, o, rfl, h4⟩
    have e' := e
    simp only [Value.slice.injEq, Option.some.injEq] at e'
    exact ⟨b, o, e'.1, h4⟩
theorem pCells_len (l : List Prt) : (pCells l).length = l.length * 6 := by
  induction l with
  | nil => rfl
  | cons x l ih =>
    have e : pCells (x :: l) = x.arr.toList ++ pCells l := by simp [pCells]
    rw [e, List.length_append, ih, List.length_cons]
    simp [Prt.arr]
    omega
theorem pCells_get (l : List Prt) (j : Nat) (u : Value) (h : (pCells l)[j]? = some u) : ∃ p, l[j / 6]? = some p ∧ p.arr[j % 6]? = some u := by
  have hlt := (List.getElem?_eq_some_iff.1 h).1
  rw [pCells_len] at hlt
  obtain ⟨p, hp⟩ : ∃ p, l[j / 6]? = some p := ⟨_, List.getElem?_eq_getElem (by omega)⟩
  have := pCells_at l (j / 6) p hp (j % 6) (by omega)
  rw [show j / 6 * 6 + j % 6 = j by omega, h] at this
  exact ⟨p, hp, this.symm⟩
theorem Six.get {W : World} {b o : Nat} {p : Prt} (h : Six W b o p) {r : Nat} {u : Value} (hr : p.arr[r]? = some u) : W.cell? ⟨b, o + r, none⟩ = some u := by
  have hlt := (Array.getElem?_eq_some_iff.1 hr).1
  have h6 : r < 6 := by simpa [Prt.arr] using hlt
  match r, h6, hr with
  | 0, _, hr => simp [Prt.arr] at hr; subst hr; exact h.c0
  | 1, _, hr => simp [Prt.arr] at hr; subst hr; exact h.c1
  | 2, _, hr => simp [Prt.arr] at hr; subst hr; exact h.c2
  | 3, _, hr => simp [Prt.arr] at hr; subst hr; exact h.c3
  | 4, _, hr => simp [Prt.arr] at hr; subst hr; exact h.c4
  | 5, _, hr => simp [Prt.arr] at hr; subst hr; exact h.c5
theorem pCells_one (l : List Prt) : ∀ u ∈ pCells l, u.oneCell' = true := by
  intro u hu
  obtain ⟨p, -, hp⟩ := List.mem_flatMap.1 hu
  simp [Prt.arr] at hp
  rcases hp with rfl | rfl | rfl | rfl | rfl | rfl <;> rfl
/-- append of parts to no list at all. -/
theorem wpList_cpy {ops : Array Oper} {rest : List Oper} {o : Oper} {a : Act} {Q : Exit → Act → World → Prop} (hgd : o.guard = none) (s x : Operand)
    (ho : o.op = .call { callee := .builtin .append, args := #[s, x], argTypes := #[36, 36] }) {wc : World} {v : Value} {l : List Prt} (hp : PSrc wc v l) (hl : l.length ≤ 1000)
    (hs : a.eval s = .slice none 0 0) (hx : a.eval x = v)
    (h : ∀ v' w2, Hid (Prts wc.heap.size w2 v' l) → Hid (Below wc.heap.size wc w2) → wpList Tryd.prog ops Q rest (a.put o.dst v') w2) :
    wpList Tryd.prog ops Q (o :: rest) a wc := by
  obtain ⟨i0, hi, hz0, hz1, hz2⟩ := info_parts infoPart
  have key : ∃ v' w', (Builtin.append_ #[36, 36] o.type #[.slice none 0 0, v]).run Tryd.prog wc = .ok v' w' ∧ Prts wc.heap.size w' v' l ∧ Below wc.heap.size wc w' := by
    rcases hp with ⟨rfl, rfl⟩ | ⟨ad, c, rfl, h2⟩
    · exact ⟨_, _, run_append_owned_none wc wc.heap.size 36 o.type 35 i0 6 Tryd.underlying36 hi (.slice none 0 0) 0 [] (World.ownsRow_nil _ _ _ _), World.ownsRow_nil _ _ _ _, Below.refl _ _⟩
    · obtain ⟨v', w', hr, r1, r2, -⟩ := run_append_own (P := Tryd.prog) wc wc.heap.size 36 o.type 35 i0 _ 6 48 Tryd.underlying36 hi hz0 hz1 hz2 rfl (by decide) (.slice none 0 0) 0 [] (World.ownsRow_nil _ _ _ _) ad l.length c (pCells l) (pCells_len l) (fun j u hu => by
        obtain ⟨p, hp, hq⟩ := pCells_get l j u hu
        rcases h2 with rfl | ⟨b, o, rfl, h3⟩
        · simp at hp
        · have := (h3 _ p hp).get hq
          rw [Addr.add_lit]
          rw [show o + j / 6 * 6 + j % 6 = o + j by omega] at this
          exact this) (pCells_one l) (by unfold maxLen; omega) (by omega) (Nat.le_refl _)
      refine ⟨v', w', hr, ?_, ⟨r2.os, r2.tape, r2.output, r2.size, fun k hk => r2.block k hk (by simp [Value.ownBlock])⟩⟩
      simpa [Prts] using r1
  obtain ⟨v', w', hrun, h1, h2⟩ := key
  refine wpList_plain hgd fun K hK' => ?_
  unfold Oper.wp
  simp [execOp, ho, resolve, invoke, builtin, hs, hx, hrun, Result.andThen]
  exact hK' _ _ (h v' w' h1 h2)
/-- Eleven cells set. -/
def put11 (w : World) (b : Nat) (x0 x1 x2 x3 x4 x5 x6 x7 x8 x9 x10 : Value) : World := (((((((((((w.setCell ⟨b, 0, none⟩ x0).setCell ⟨b, 1, none⟩ x1).setCell ⟨b, 2, none⟩ x2).setCell ⟨b, 3, none⟩ x3).setCell ⟨b, 4, none⟩ x4).setCell ⟨b, 5, none⟩ x5).setCell ⟨b, 6, none⟩ x6).setCell ⟨b, 7, none⟩ x7).setCell ⟨b, 8, none⟩ x8).setCell ⟨b, 9, none⟩ x9).setCell ⟨b, 10, none⟩ x10)
theorem put11_blk {w : World} {b : Nat} {a0 a1 a2 a3 a4 a5 a6 a7 a8 a9 a10 : Value} {e : TypeId} (h : w.heap[b]? = some (.cells #[a0, a1, a2, a3, a4, a5, a6, a7, a8, a9, a10] e (0, 0))) (x0 x1 x2 x3 x4 x5 x6 x7 x8 x9 x10 : Value) : (put11 w b x0 x1 x2 x3 x4 x5 x6 x7 x8 x9 x10).heap[b]? = some (.cells #[x0, x1, x2, x3, x4, x5, x6, x7, x8, x9, x10] e (0, 0)) := by
  have h0 := heap_setCell_same _ b 0 _ e x0 h
  have h1 := heap_setCell_same _ b 1 _ e x1 h0
  have h2 := heap_setCell_same _ b 2 _ e x2 h1
  have h3 := heap_setCell_same _ b 3 _ e x3 h2
  have h4 := heap_setCell_same _ b 4 _ e x4 h3
  have h5 := heap_setCell_same _ b 5 _ e x5 h4
  have h6 := heap_setCell_same _ b 6 _ e x6 h5
  have h7 := heap_setCell_same _ b 7 _ e x7 h6
  have h8 := heap_setCell_same _ b 8 _ e x8 h7
  have h9 := heap_setCell_same _ b 9 _ e x9 h8
  have h10 := heap_setCell_same _ b 10 _ e x10 h9
  unfold put11
  simpa using h10
theorem put11_st (w : World) (b : Nat) (x0 x1 x2 x3 x4 x5 x6 x7 x8 x9 x10 : Value) : St (fun k => k = b) w (put11 w b x0 x1 x2 x3 x4 x5 x6 x7 x8 x9 x10) := by
  have c := fun (w : World) (j : Nat) (v : Value) => St.setCell (S := fun k => k = b) (a := w) (p := ⟨b, j, none⟩) v rfl
  exact (((((((((((((((((((((c w 0 x0).trans (c _ 1 x1) fun _ _ q => q)).trans (c _ 2 x2) fun _ _ q => q)).trans (c _ 3 x3) fun _ _ q => q)).trans (c _ 4 x4) fun _ _ q => q)).trans (c _ 5 x5) fun _ _ q => q)).trans (c _ 6 x6) fun _ _ q => q)).trans (c _ 7 x7) fun _ _ q => q)).trans (c _ 8 x8) fun _ _ q => q)).trans (c _ 9 x9) fun _ _ q => q)).trans (c _ 10 x10) fun _ _ q => q))
section
variable {B : Nat} {W W' : World} {jb : Nat} {sv mv : Value} {most : Nat} {st : List Sx} {Ad : Nat → Addr}
set_option maxHeartbeats 1600000 in
theorem copied_any (u : Ue) (hp : PSrc W u.pv u.ps) (hl : u.ps.length ≤ 1000) :
    Calls Tryd.prog 45 #[.agg #[.int .i64 u.k, .int .i64 u.id, .int .i64 u.p.c, .int .i64 u.p.v0, .int .i64 u.p.v1, .int .i64 u.p.v2, .int .i64 u.p.v3, .int .i64 u.p.t, u.pv, .int .i64 u.n, .int .i64 u.o]] W fun e W' =>
      ∃ v', e = .returned (.agg #[.int .i64 u.k, .int .i64 u.id, .int .i64 u.p.c, .int .i64 u.p.v0, .int .i64 u.p.v1, .int .i64 u.p.v2, .int .i64 u.p.v3, .int .i64 u.p.t, v', .int .i64 u.n, .int .i64 u.o]) ∧ Prts W.heap.size W' v' u.ps ∧ Below W.heap.size W W' := by
  obtain ⟨k, id, p, pv, ps, n, o⟩ := u
  simp only at hp hl ⊢
  have HP := hid hp
  have HL := hid hl
  obtain ⟨a, c, rfl, -⟩ := hp.row
  clear hp hl
  go_enter Tryd.func45, Tryd.ntmps45
  go_upto_region 1 with fail
  obtain ⟨wa, hwa⟩ : ∃ wa, wa = (W.alloc (.cells #[.int .i64 k, .int .i64 id, .int .i64 p.c, .int .i64 p.v0, .int .i64 p.v1, .int .i64 p.v2, .int .i64 p.v3, .int .i64 p.t, .slice a ps.length c, .int .i64 n, .int .i64 o] 38)).alloc (.cells #[.int .i64 0, .int .i64 0, .int .i64 0, .int .i64 0, .int .i64 0, .int .i64 0, .int .i64 0, .int .i64 0, .slice none 0 0, .int .i64 0, .int .i64 0] 38) := ⟨_, rfl⟩
  rw [← hwa]
  have hba : Below W.heap.size W wa := by rw [hwa]; exact ((Below.refl _ _).alloc (Nat.le_refl _) _).alloc (by simp) _
  have hsz : wa.heap.size = W.heap.size + 1 + 1 := by rw [hwa]; simp
  have x1 : wa.heap[W.heap.size]? = some (.cells #[.int .i64 k, .int .i64 id, .int .i64 p.c, .int .i64 p.v0, .int .i64 p.v1, .int .i64 p.v2, .int .i64 p.v3, .int .i64 p.t, .slice a ps.length c, .int .i64 n, .int .i64 o] 38 (0, 0)) := by
    rw [hwa]
    exact blk_seen (bAl _ _) (Nat.le_refl _) (heap_alloc_new W _)
  have x2 : wa.heap[W.heap.size + 1]? = some (.cells #[.int .i64 0, .int .i64 0, .int .i64 0, .int .i64 0, .int .i64 0, .int .i64 0, .int .i64 0, .int .i64 0, .slice none 0 0, .int .i64 0, .int .i64 0] 38 (0, 0)) := by
    rw [hwa]
    have := heap_alloc_new (W.alloc (.cells #[.int .i64 k, .int .i64 id, .int .i64 p.c, .int .i64 p.v0, .int .i64 p.v1, .int .i64 p.v2, .int .i64 p.v3, .int .i64 p.t, .slice a ps.length c, .int .i64 n, .int .i64 o] 38)) (.cells #[.int .i64 0, .int .i64 0, .int .i64 0, .int .i64 0, .int .i64 0, .int .i64 0, .int .i64 0, .int .i64 0, .slice none 0 0, .int .i64 0, .int .i64 0] 38)
    simpa using this
  clear hwa
  have e8 : wa.cell? ⟨W.heap.size, 8, none⟩ = some (.slice a ps.length c) := cell_blk x1 rfl
  have P1 := hid (HP.out.later hba)
  have HX1 := hid x1
  have HX2 := hid x2
  have HBA := hid hba
  have HSZ := hid hsz
  clear HP x1 x2 hba hsz
  go_upto_region 2 with (at_builtin; refine wpList_cpy rfl _ _ rfl P1.out HL.out rfl rfl ?_; intro v' w2 hP hB; obtain ⟨a', c', rfl⟩ := hP.out.slice; have Y1 := blk_seen hB.out (Nat.le_refl _) HX1.out; have q8 := cell_blk (j := 8) Y1 rfl; have f8 := blk_free Y1 8; clear Y1)
  obtain ⟨w3, hw3⟩ : ∃ w3, w3 = w2.setCell ⟨W.heap.size, 8, none⟩ (.slice a' ps.length c') := ⟨_, rfl⟩
  rw [← hw3]
  have y1 : w3.heap[W.heap.size]? = some (.cells #[.int .i64 k, .int .i64 id, .int .i64 p.c, .int .i64 p.v0, .int .i64 p.v1, .int .i64 p.v2, .int .i64 p.v3, .int .i64 p.t, .slice a' ps.length c', .int .i64 n, .int .i64 o] 38 (0, 0)) := by
    rw [hw3]
    simpa using heap_setCell_same w2 W.heap.size 8 _ _ (.slice a' ps.length c') (blk_seen hB.out (Nat.le_refl _) HX1.out)
  have s3 : St (fun k => k = W.heap.size) w2 w3 := by rw [hw3]; exact St.setCell _ rfl
  have y2 : w3.heap[W.heap.size + 1]? = some (.cells #[.int .i64 0, .int .i64 0, .int .i64 0, .int .i64 0, .int .i64 0, .int .i64 0, .int .i64 0, .int .i64 0, .slice none 0 0, .int .i64 0, .int .i64 0] 38 (0, 0)) := s3.at (blk_seen hB.out (Nat.le_refl _) HX2.out) (by omega)
  have d0 := cell_blk (j := 0) y1 rfl
  have d1 := cell_blk (j := 1) y1 rfl
  have d2 := cell_blk (j := 2) y1 rfl
  have d3 := cell_blk (j := 3) y1 rfl
  have d4 := cell_blk (j := 4) y1 rfl
  have d5 := cell_blk (j := 5) y1 rfl
  have d6 := cell_blk (j := 6) y1 rfl
  have d7 := cell_blk (j := 7) y1 rfl
  have d8 := cell_blk (j := 8) y1 rfl
  have d9 := cell_blk (j := 9) y1 rfl
  have d10 := cell_blk (j := 10) y1 rfl
  have z0 := cell_blk (j := 0) y2 rfl
  have z1 := cell_blk (j := 1) y2 rfl
  have z2 := cell_blk (j := 2) y2 rfl
  have z3 := cell_blk (j := 3) y2 rfl
  have z4 := cell_blk (j := 4) y2 rfl
  have z5 := cell_blk (j := 5) y2 rfl
  have z6 := cell_blk (j := 6) y2 rfl
  have z7 := cell_blk (j := 7) y2 rfl
  have z8 := cell_blk (j := 8) y2 rfl
  have z9 := cell_blk (j := 9) y2 rfl
  have z10 := cell_blk (j := 10) y2 rfl
  have fz := fun j => blk_free y2 j
  have HY2 := hid y2
  have HP := hid hP.out
  have hk3 : Hid (Prts wa.heap.size w3 (.slice a' ps.length c') ps) := hP.out.kept s3 fun x hx q => by
    have := (hP.out.lt x hx).1
    have := HSZ.out
    omega
  have hb3 : Hid (Below W.heap.size W w3) := (HBA.out.trans (hB.out.mono HBA.out.size)).trans (s3.below (fun k q => by omega) (Nat.le_trans HBA.out.size hB.out.size))
  clear hw3 y1 y2 s3 q8 f8 e8 hP hB HX1 HX2
  go_wp2_with fail
  obtain ⟨wf, hwf⟩ : ∃ wf, wf = put11 w3 (W.heap.size + 1) (.int .i64 k) (.int .i64 id) (.int .i64 p.c) (.int .i64 p.v0) (.int .i64 p.v1) (.int .i64 p.v2) (.int .i64 p.v3) (.int .i64 p.t) (.slice a' ps.length c') (.int .i64 n) (.int .i64 o) := ⟨_, rfl⟩
  have g : wf.heap[W.heap.size + 1]? = some (.cells #[.int .i64 k, .int .i64 id, .int .i64 p.c, .int .i64 p.v0, .int .i64 p.v1, .int .i64 p.v2, .int .i64 p.v3, .int .i64 p.t, .slice a' ps.length c', .int .i64 n, .int .i64 o] 38 (0, 0)) := by
    rw [hwf]
    exact put11_blk HY2.out _ _ _ _ _ _ _ _ _ _ _
  have sf : St (fun k => k = W.heap.size + 1) w3 wf := by rw [hwf]; exact put11_st _ _ _ _ _ _ _ _ _ _ _ _ _
  have eg : wf = _ := hwf
  unfold put11 at eg
  rw [← eg]
  have g0 := cell_blk (j := 0) g rfl
  have g1 := cell_blk (j := 1) g rfl
  have g2 := cell_blk (j := 2) g rfl
  have g3 := cell_blk (j := 3) g rfl
  have g4 := cell_blk (j := 4) g rfl
  have g5 := cell_blk (j := 5) g rfl
  have g6 := cell_blk (j := 6) g rfl
  have g7 := cell_blk (j := 7) g rfl
  have g8 := cell_blk (j := 8) g rfl
  have g9 := cell_blk (j := 9) g rfl
  have g10 := cell_blk (j := 10) g rfl
  refine bodyPost_ret (v := .agg #[.int .i64 k, .int .i64 id, .int .i64 p.c, .int .i64 p.v0, .int .i64 p.v1, .int .i64 p.v2, .int .i64 p.v3, .int .i64 p.t, .slice a' ps.length c', .int .i64 n, .int .i64 o]) (by simp [results, Tryd.f45, go_sem, g0, g1, g2, g3, g4, g5, g6, g7, g8, g9, g10]) rfl ⟨_, rfl, ?_, ?_⟩
  · refine ((hk3.out.kept sf fun x hx q => ?_).lower (by have := HSZ.out; omega))
    have := (hk3.out.lt x hx).1
    have := HSZ.out
    omega
  · exact hb3.out.trans (sf.below (fun k q => by omega) hb3.out.size)
end
end Go.Proofs.YtnbgjbdbbmpoaaaDoor.Jo
