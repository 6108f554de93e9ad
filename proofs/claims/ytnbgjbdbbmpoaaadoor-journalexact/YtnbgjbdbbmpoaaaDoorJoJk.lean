/- A journal: add. -/
import Derived.Test.YtnbgjbdbbmpoaaaDoorJoJj
namespace Go.Proofs.YtnbgjbdbbmpoaaaDoor.Jo
open Go.RowKit Go.Shelf Go.Maps
section
variable {B : Nat} {W W' : World} {jb : Nat} {sv mv : Value} {most : Nat} {st : List Sx} {Ad : Nat → Addr}
theorem noted_at {a : List Sx} {s : Sx} {g off cap : Nat} {w4 w5 : World} (h : Jn B W jb (.slice (some ⟨g, off, none⟩) (a.length + 1) cap) mv most (a ++ [s])) (hb : Below W.heap.size W w4) (hs : St (fun x => s.ev.ownBlock = some x) w4 w5) :
    w5.cell? ⟨g, off + a.length * 2 + 1, none⟩ = some s.ev ∧ w5.frozen? ⟨g, off + a.length * 2 + 1, none⟩ = false ∧ w5.cell? ⟨jb, 1, none⟩ = some (.int .i64 (tot (a ++ [s]) : Int)) ∧ w5.frozen? ⟨jb, 1, none⟩ = false ∧ ¬ jb = g ∧ ¬ s.ev.ownBlock = some W.heap.size ∧ w5.cell? ⟨jb, 3, none⟩ = some mv := by
  have j4 := h.later hb
  have us := j4.ents s (by simp)
  have hgrow : (Value.slice (some ⟨g, off, none⟩) (a.length + 1) cap).ownBlock = some g := rfl
  obtain ⟨cg, tg⟩ := j4.row.typ hgrow
  have nj : ¬ s.ev.ownBlock = some jb := fun q => by
    obtain ⟨-, c, q⟩ := us.typ q
    rw [j4.box] at q; simp at q
  have ng : ¬ s.ev.ownBlock = some g := fun q => by
    obtain ⟨-, c, q⟩ := us.typ q
    rw [tg] at q; simp at q
  have l5 := j4.row.kept hs fun k hk q => by
    obtain rfl : g = k := by simpa [Value.ownBlock] using hk
    exact ng q
  obtain ⟨g1, o1, c1, e, -, -, hc⟩ := l5.pos (by simp)
  simp at e
  obtain ⟨⟨rfl, rfl⟩, -⟩ := e
  have hx := (sCells_at (a ++ [s]) a.length s (by simp)).2
  have c3 := hc (a.length * 2 + 1) (by simp; omega)
  rw [hx, ← Nat.add_assoc] at c3
  obtain ⟨cg5, tg5⟩ := l5.typ hgrow
  have b5 := hs.at j4.box nj
  refine ⟨c3, blk_free tg5 _, cell_blk b5 rfl, blk_free b5 _, ?_, fun q => ?_, cell_blk b5 rfl⟩
  · rintro rfl; rw [j4.box] at tg; simp at tg
  · have := ((h.ents s (by simp)).1.lt _ q).2
    omega
set_option maxHeartbeats 6400000 in
set_option maxRecDepth 100000 in
theorem add_any {a : List Sx} {s : Sx} (h : Jn B W jb sv mv most (a ++ [s])) (hB : B ≤ W.heap.size) (u : Ue) (hu : u.ok) (h0 : 1 ≤ u.k) (h9 : u.k ≤ 9) (hp : PSrc W u.pv u.ps) (hps : u.ps.length ≤ 1000) (hf : tot (a ++ [s]) < most) :
    Calls Tryd.prog 34 #[.pointer (some ⟨jb, 0, none⟩), .agg #[.int .i64 u.k, .int .i64 u.id, .int .i64 u.p.c, .int .i64 u.p.v0, .int .i64 u.p.v1, .int .i64 u.p.v2, .int .i64 u.p.v3, .int .i64 u.p.t, u.pv, .int .i64 u.n, .int .i64 u.o]] W fun e W' => e = .returned (.tuple #[]) ∧ ∃ v' ev', Jn B W' jb sv mv most (a ++ [⟨s.f, ev', s.l ++ [u.with v']⟩]) ∧ St (Fn jb sv mv s) W W' := by
  obtain ⟨k, id, p, pv, ps, n, o⟩ := u
  simp only at hp hps h0 h9 ⊢
  obtain ⟨ad, cc, rfl, -⟩ := hp.row
  obtain ⟨mb, rfl, -⟩ := h.told a s rfl
  obtain ⟨g, off, cap, rfl, -, -, hc⟩ := h.row.pos (by simp)
  have hl1 : (a ++ [s]).length = a.length + 1 := by simp
  rw [hl1] at h hc ⊢
  have hsl : s.l.length ≤ 70000 := by
    have := h.few
    rw [tot_snoc] at this
    omega
  have hft : tot (a ++ [s]) ≤ 65536 := Nat.le_trans h.few.1 h.few.2
  have hx := (sCells_at (a ++ [s]) a.length s (by simp)).2
  have c3 := hc (a.length * 2 + 1) (by omega)
  rw [hx, ← Nat.add_assoc] at c3
  obtain ⟨wa, hwa⟩ : ∃ wa, wa = W.alloc (.cells #[.int .i64 k, .int .i64 id, .int .i64 p.c, .int .i64 p.v0, .int .i64 p.v1, .int .i64 p.v2, .int .i64 p.v3, .int .i64 p.t, .slice ad ps.length cc, .int .i64 n, .int .i64 o] 38) := ⟨_, rfl⟩
  have ba : Below W.heap.size W wa := by rw [hwa]; exact bAl _ _
  have hxa : wa.heap[W.heap.size]? = some (.cells #[.int .i64 k, .int .i64 id, .int .i64 p.c, .int .i64 p.v0, .int .i64 p.v1, .int .i64 p.v2, .int .i64 p.v3, .int .i64 p.t, .slice ad ps.length cc, .int .i64 n, .int .i64 o] 38 (0, 0)) := by rw [hwa]; exact heap_alloc_new W _
  have hli : (a.length : Int) ≤ 1073741825 := by have := h.len; rw [hl1] at this; omega
  have hal : a.length < a.length + 1 := by omega
  have d2 := seen ba (Nat.le_refl _) h.c2
  have HN := hid fun v' w3 w5 w7 g' cap' => Jn.noted (v' := v') (w3 := w3) (w5 := w5) (w7 := w7) (g' := g') (cap' := cap') h hB hu h0 h9 hps hf
  have HC3 := hid c3
  obtain ⟨am, ham⟩ : ∃ am, am = aboutM ⟨k, id, p, .slice ad ps.length cc, ps, n, o⟩ := ⟨_, rfl⟩
  have AB := hid (about_any ⟨k, id, p, .slice ad ps.length cc, ps, n, o⟩)
  rw [← ham] at AB
  have HAM := hid ham
  clear ham
  simp only at AB
  have HWA := hid hwa
  have BA := hid ba
  have HXA := hid hxa
  have HP := hid hp
  have HPS := hid hps
  have HSL := hid hsl
  have HH := hid h
  have HB := hid hB
  have HU := hid hu
  have hglt : g < W.heap.size := World.block_lt_of_cell? W _ c3
  have hjlt := h.lt
  clear hwa ba hxa hc hx h hB hl1 hsl hp hps hu c3 hf
  go_enter Tryd.func34, Tryd.ntmps34
  go_upto_region 1 with fail
  rw [← HWA.out]
  clear HWA
  go_quiet (fail)
  clear d2
  obtain ⟨w1, hw1⟩ : ∃ w1, w1 = wa.drewN nq := ⟨_, rfl⟩
  rw [← hw1]
  have b1 : Below wa.heap.size wa w1 := by rw [hw1]; exact drewN_below _ _
  have B1 := hid (BA.out.trans (b1.mono BA.out.size))
  have x1 := blk_seen b1 (Nat.le_refl _) HXA.out
  have X1 := hid x1
  clear hw1 b1 BA HXA
  have y0 := cell_blk (j := 0) x1 rfl
  have y1 := cell_blk (j := 1) x1 rfl
  have y2 := cell_blk (j := 2) x1 rfl
  have y3 := cell_blk (j := 3) x1 rfl
  have y4 := cell_blk (j := 4) x1 rfl
  have y5 := cell_blk (j := 5) x1 rfl
  have y6 := cell_blk (j := 6) x1 rfl
  have y7 := cell_blk (j := 7) x1 rfl
  have y8 := cell_blk (j := 8) x1 rfl
  have y9 := cell_blk (j := 9) x1 rfl
  have y10 := cell_blk (j := 10) x1 rfl
  have c3 := seen B1.out (Nat.le_refl _) HC3.out
  have CP : Hid (∀ W', Below w1.heap.size w1 W' → Calls Tryd.prog 45 #[.agg #[.int .i64 k, .int .i64 id, .int .i64 p.c, .int .i64 p.v0, .int .i64 p.v1, .int .i64 p.v2, .int .i64 p.v3, .int .i64 p.t, .slice ad ps.length cc, .int .i64 n, .int .i64 o]] W' fun e W'' => ∃ v', e = .returned (.agg #[.int .i64 k, .int .i64 id, .int .i64 p.c, .int .i64 p.v0, .int .i64 p.v1, .int .i64 p.v2, .int .i64 p.v3, .int .i64 p.t, v', .int .i64 n, .int .i64 o]) ∧ Hid (Prts W'.heap.size W'' v' ps) ∧ Hid (Below W'.heap.size W' W'')) := fun W' hb => copied_any ⟨k, id, p, .slice ad ps.length cc, ps, n, o⟩ (HP.out.later (B1.out.trans (hb.mono B1.out.size))) HPS.out
  clear x1
  go_upto_region 2 with fail
  go_region_law (first
    | (refine step_und (u := ⟨k, id, p, .slice ad3 ps.length cc3, ps, n, o⟩) rfl _ _ rfl (OW.out _) HSL.out (hB4 _) (heap_alloc_new w3 _) rfl rfl rfl ?_; intro g' cap' w5 hO hS hN; obtain ⟨e1, e2, e3, e4, e5, e6, e7⟩ := noted_at HH.out (BA4.out _) hS.out)
    | (go_simp; refine (CP.out _ (Below.refl _ _).drew).mono ?_; rintro e w3 ⟨v3, rfl, hP3, hB3⟩; obtain ⟨ad3, cc3, rfl⟩ := hP3.out.slice; have q3 : Below w1.heap.size w1 w3 := (Below.refl w1.heap.size w1).drew.trans hB3.out; have B3 := hid (B1.out.trans (q3.mono B1.out.size)); have X3 := hid (blk_seen q3 (Nat.le_refl _) X1.out); have c33 := seen B3.out (Nat.le_refl _) HC3.out; have hg3 : g < w3.heap.size := World.block_lt_of_cell? w3 _ c33; have hg3n : ¬ g = w3.heap.size := (by omega); have OW : Hid (∀ ob, (w3.alloc ob).ownsRow B 38 11 s.ev s.l.length (uCells s.l)) := fun ob => World.ownsRow.alloc ((HH.out.later B3.out).ents s (by simp)).1 ob; have hB4 : ∀ ob, B ≤ (w3.alloc ob).heap.size := fun ob => Nat.le_trans HB.out (Nat.le_trans B3.out.size (by simp)); have BA4 : Hid (∀ ob, Below W.heap.size W (w3.alloc ob)) := fun ob => B3.out.trans ((bAl w3 ob).mono B3.out.size); have P3 := hid (hP3.out.lower (B' := W.heap.size) B1.out.size); clear hP3 hB3 q3))
  · have hP4 := hid (P3.out.later (bAl w3 (.cells #[.int .i64 k, .int .i64 id, .int .i64 p.c, .int .i64 p.v0, .int .i64 p.v1, .int .i64 p.v2, .int .i64 p.v3, .int .i64 p.t, .slice ad3 ps.length cc3, .int .i64 n, .int .i64 o] 38)))
    have X5 := hid (hS.out.at (blk_seen (bAl w3 (.cells #[.int .i64 k, .int .i64 id, .int .i64 p.c, .int .i64 p.v0, .int .i64 p.v1, .int .i64 p.v2, .int .i64 p.v3, .int .i64 p.t, .slice ad3 ps.length cc3, .int .i64 n, .int .i64 o] 38)) (Nat.le_refl _) X3.out) e6)
    obtain ⟨w6, hw6⟩ : ∃ w6, w6 = w5.setCell ⟨g, off + a.length * 2 + 1, none⟩ (.slice (some ⟨g', 0, none⟩) (s.l.length + 1) cap') := ⟨_, rfl⟩
    obtain ⟨w7, hw7⟩ : ∃ w7, w7 = w6.setCell ⟨jb, 1, none⟩ (.int .i64 ((tot (a ++ [s]) : Int) + 1)) := ⟨_, rfl⟩
    rw [← hw6]
    have NT := hid (HN.out _ _ _ w7 _ _ (BA4.out _) hP4.out hO.out hS.out hN.out (by rw [hw7, hw6]))
    have s6 : St (fun x => x = g) w5 w6 := by rw [hw6]; exact St.setCell _ rfl
    have s7 : St (fun x => x = jb) w6 w7 := by rw [hw7]; exact St.setCell _ rfl
    have n1 : w6.cell? ⟨jb, 1, none⟩ = some (.int .i64 (tot (a ++ [s]) : Int)) := by
      rw [hw6, World.cell?_setCell_other _ _ _ _ (by intro q; exact e5 (congrArg Addr.block q).symm)]
      exact e3
    have n2 : w6.frozen? ⟨jb, 1, none⟩ = false := by rw [hw6, World.frozen?_setCell]; exact e4
    have n3 : w7.cell? ⟨jb, 3, none⟩ = some (.map (some mb)) := by
      rw [hw7, World.cell?_setCell_other _ _ _ _ (by intro q; simp at q), hw6, World.cell?_setCell_other _ _ _ _ (by intro q; exact e5 (congrArg Addr.block q).symm)]
      exact e7
    have X7 := s7.at (s6.at X5.out (by omega)) (by omega)
    have z0 := cell_blk (j := 0) X7 rfl
    have z1 := cell_blk (j := 1) X7 rfl
    have z2 := cell_blk (j := 2) X7 rfl
    have z3 := cell_blk (j := 3) X7 rfl
    have z4 := cell_blk (j := 4) X7 rfl
    have z5 := cell_blk (j := 5) X7 rfl
    have z6 := cell_blk (j := 6) X7 rfl
    have z7 := cell_blk (j := 7) X7 rfl
    have z8 := cell_blk (j := 8) X7 rfl
    have z9 := cell_blk (j := 9) X7 rfl
    have z10 := cell_blk (j := 10) X7 rfl
    have HW7 := hid hw7
    clear hw7 hw6 s6 s7 X5 X7 hP4 e1 e2 e3 e4 e5 e6 e7 y0 y1 y2 y3 y4 y5 y6 y7 y8 y9 y10 hO hS hN hB4 OW BA4 P3 X3 c33 c3 HN CP B3 hg3 hg3n
    go_upto_region 4 with fail
    rw [← HW7.out]
    clear HW7 n1 n2
    by_cases k3 : k = 3
    · subst k3
      go_wp2_with fail
      go_end0
      obtain ⟨t1, ⟨mb', t2, t3⟩, t4⟩ := NT.out
      exact ⟨rfl, _, _, t1.full t2 (t3.skip _ (by simp [Ue.with])), t4⟩
    · by_cases k5 : k = 5
      · subst k5
        go_wp2_with fail
        go_end0
        obtain ⟨t1, ⟨mb', t2, t3⟩, t4⟩ := NT.out
        exact ⟨rfl, _, _, t1.full t2 (t3.skip _ (by simp [Ue.with])), t4⟩
      · have b3 : (k != 3) = true := by simp [k3]
        have b5 : (k != 5) = true := by simp [k5]
        have ST : Hid (∀ w8, Below w7.heap.size w7 w8 → ∃ w9, (Instr.mapUpdate 66 (.map (some mb)) (.agg #[.int .i64 am.k, .int .i64 am.id, .int .i64 am.n]) (.agg #[])).run Tryd.prog w8 = .ok () w9 ∧ Hid (∃ v' ev', Jn B w9 jb (.slice (some ⟨g, off, none⟩) (a.length + 1) cap) (.map (some mb)) most (a ++ [⟨s.f, ev', s.l ++ [Ue.with ⟨k, id, p, .slice ad ps.length cc, ps, n, o⟩ v']⟩]) ∧ St (Fn jb (.slice (some ⟨g, off, none⟩) (a.length + 1) cap) (.map (some mb)) s) W w9)) := by
          intro w8 hb8
          obtain ⟨t1, ⟨mb', t2, t3⟩, t4⟩ := NT.out
          obtain rfl : mb = mb' := by simpa using t2
          have m8 := t3.kept (St.of_below (S := fun _ => False) hb8) (fun q => q)
          have j8 := t1.kept (mb := mb) (St.of_below hb8) t3.obj
          obtain ⟨w9, r1, r2, r3⟩ := m8.store (Ue.with ⟨k, id, p, .slice ad ps.length cc, ps, n, o⟩ (.slice ad3 ps.length cc3)) HU.out h0 h9 ⟨k3, k5⟩ (by have := HSL.out; omega)
          refine ⟨w9, ?_, _, _, (j8.kept r3 m8.obj).full rfl r2, ?_⟩
          · rw [HAM.out]; exact r1
          · exact (t4.trans (St.of_below (S := fun _ => False) hb8) fun _ _ q => q.elim).trans r3 fun x _ q => .inr (.inr (.inl (by rw [q])))
        clear NT
        go_upto_region 5 with fail
        go_region_with ((go_at_call 44; refine (AB.out _).mono ?_; rintro e w8 ⟨rfl, hb8⟩; have m3 := seen hb8 (Nat.le_refl _) n3; obtain ⟨w9, hr9, R9⟩ := ST.out w8 ((Below.refl _ _).drew.trans hb8); clear hb8))
        all_goals
          go_wp2_with fail
          go_end0
          exact ⟨rfl, R9.out⟩
  · have hP4 := hid (P3.out.later (bAl w3 (.cells #[.int .i64 k, .int .i64 id, .int .i64 p.c, .int .i64 p.v0, .int .i64 p.v1, .int .i64 p.v2, .int .i64 p.v3, .int .i64 p.t, .slice ad3 ps.length cc3, .int .i64 n, .int .i64 o] 38)))
    have X5 := hid (hS.out.at (blk_seen (bAl w3 (.cells #[.int .i64 k, .int .i64 id, .int .i64 p.c, .int .i64 p.v0, .int .i64 p.v1, .int .i64 p.v2, .int .i64 p.v3, .int .i64 p.t, .slice ad3 ps.length cc3, .int .i64 n, .int .i64 o] 38)) (Nat.le_refl _) X3.out) e6)
    obtain ⟨w6, hw6⟩ : ∃ w6, w6 = w5.setCell ⟨g, off + a.length * 2 + 1, none⟩ (.slice (some ⟨g', 0, none⟩) (s.l.length + 1) cap') := ⟨_, rfl⟩
    obtain ⟨w7, hw7⟩ : ∃ w7, w7 = w6.setCell ⟨jb, 1, none⟩ (.int .i64 ((tot (a ++ [s]) : Int) + 1)) := ⟨_, rfl⟩
    rw [← hw6]
    have NT := hid (HN.out _ _ _ w7 _ _ (BA4.out _) hP4.out hO.out hS.out hN.out (by rw [hw7, hw6]))
    have s6 : St (fun x => x = g) w5 w6 := by rw [hw6]; exact St.setCell _ rfl
    have s7 : St (fun x => x = jb) w6 w7 := by rw [hw7]; exact St.setCell _ rfl
    have n1 : w6.cell? ⟨jb, 1, none⟩ = some (.int .i64 (tot (a ++ [s]) : Int)) := by
      rw [hw6, World.cell?_setCell_other _ _ _ _ (by intro q; exact e5 (congrArg Addr.block q).symm)]
      exact e3
    have n2 : w6.frozen? ⟨jb, 1, none⟩ = false := by rw [hw6, World.frozen?_setCell]; exact e4
    have n3 : w7.cell? ⟨jb, 3, none⟩ = some (.map (some mb)) := by
      rw [hw7, World.cell?_setCell_other _ _ _ _ (by intro q; simp at q), hw6, World.cell?_setCell_other _ _ _ _ (by intro q; exact e5 (congrArg Addr.block q).symm)]
      exact e7
    have X7 := s7.at (s6.at X5.out (by omega)) (by omega)
    have z0 := cell_blk (j := 0) X7 rfl
    have z1 := cell_blk (j := 1) X7 rfl
    have z2 := cell_blk (j := 2) X7 rfl
    have z3 := cell_blk (j := 3) X7 rfl
    have z4 := cell_blk (j := 4) X7 rfl
    have z5 := cell_blk (j := 5) X7 rfl
    have z6 := cell_blk (j := 6) X7 rfl
    have z7 := cell_blk (j := 7) X7 rfl
    have z8 := cell_blk (j := 8) X7 rfl
    have z9 := cell_blk (j := 9) X7 rfl
    have z10 := cell_blk (j := 10) X7 rfl
    have HW7 := hid hw7
    clear hw7 hw6 s6 s7 X5 X7 hP4 e1 e2 e3 e4 e5 e6 e7 y0 y1 y2 y3 y4 y5 y6 y7 y8 y9 y10 hO hS hN hB4 OW BA4 P3 X3 c33 c3 HN CP B3 hg3 hg3n
    go_upto_region 4 with fail
    rw [← HW7.out]
    clear HW7 n1 n2
    by_cases k3 : k = 3
    · subst k3
      go_wp2_with fail
      go_end0
      obtain ⟨t1, ⟨mb', t2, t3⟩, t4⟩ := NT.out
      exact ⟨rfl, _, _, t1.full t2 (t3.skip _ (by simp [Ue.with])), t4⟩
    · by_cases k5 : k = 5
      · subst k5
        go_wp2_with fail
        go_end0
        obtain ⟨t1, ⟨mb', t2, t3⟩, t4⟩ := NT.out
        exact ⟨rfl, _, _, t1.full t2 (t3.skip _ (by simp [Ue.with])), t4⟩
      · have b3 : (k != 3) = true := by simp [k3]
        have b5 : (k != 5) = true := by simp [k5]
        have ST : Hid (∀ w8, Below w7.heap.size w7 w8 → ∃ w9, (Instr.mapUpdate 66 (.map (some mb)) (.agg #[.int .i64 am.k, .int .i64 am.id, .int .i64 am.n]) (.agg #[])).run Tryd.prog w8 = .ok () w9 ∧ Hid (∃ v' ev', Jn B w9 jb (.slice (some ⟨g, off, none⟩) (a.length + 1) cap) (.map (some mb)) most (a ++ [⟨s.f, ev', s.l ++ [Ue.with ⟨k, id, p, .slice ad ps.length cc, ps, n, o⟩ v']⟩]) ∧ St (Fn jb (.slice (some ⟨g, off, none⟩) (a.length + 1) cap) (.map (some mb)) s) W w9)) := by
          intro w8 hb8
          obtain ⟨t1, ⟨mb', t2, t3⟩, t4⟩ := NT.out
          obtain rfl : mb = mb' := by simpa using t2
          have m8 := t3.kept (St.of_below (S := fun _ => False) hb8) (fun q => q)
          have j8 := t1.kept (mb := mb) (St.of_below hb8) t3.obj
          obtain ⟨w9, r1, r2, r3⟩ := m8.store (Ue.with ⟨k, id, p, .slice ad ps.length cc, ps, n, o⟩ (.slice ad3 ps.length cc3)) HU.out h0 h9 ⟨k3, k5⟩ (by have := HSL.out; omega)
          refine ⟨w9, ?_, _, _, (j8.kept r3 m8.obj).full rfl r2, ?_⟩
          · rw [HAM.out]; exact r1
          · exact (t4.trans (St.of_below (S := fun _ => False) hb8) fun _ _ q => q.elim).trans r3 fun x _ q => .inr (.inr (.inl (by rw [q])))
        clear NT
        go_upto_region 5 with fail
        go_region_with ((go_at_call 44; refine (AB.out _).mono ?_; rintro e w8 ⟨rfl, hb8⟩; have m3 := seen hb8 (Nat.le_refl _) n3; obtain ⟨w9, hr9, R9⟩ := ST.out w8 ((Below.refl _ _).drew.trans hb8); clear hb8))
        all_goals
          go_wp2_with fail
          go_end0
          exact ⟨rfl, R9.out⟩
  · have hP4 := hid (P3.out.later (bAl w3 (.cells #[.int .i64 k, .int .i64 id, .int .i64 p.c, .int .i64 p.v0, .int .i64 p.v1, .int .i64 p.v2, .int .i64 p.v3, .int .i64 p.t, .slice ad3 ps.length cc3, .int .i64 n, .int .i64 o] 38)))
    have X5 := hid (hS.out.at (blk_seen (bAl w3 (.cells #[.int .i64 k, .int .i64 id, .int .i64 p.c, .int .i64 p.v0, .int .i64 p.v1, .int .i64 p.v2, .int .i64 p.v3, .int .i64 p.t, .slice ad3 ps.length cc3, .int .i64 n, .int .i64 o] 38)) (Nat.le_refl _) X3.out) e6)
    obtain ⟨w6, hw6⟩ : ∃ w6, w6 = w5.setCell ⟨g, off + a.length * 2 + 1, none⟩ (.slice (some ⟨g', 0, none⟩) (s.l.length + 1) cap') := ⟨_, rfl⟩
    obtain ⟨w7, hw7⟩ : ∃ w7, w7 = w6.setCell ⟨jb, 1, none⟩ (.int .i64 ((tot (a ++ [s]) : Int) + 1)) := ⟨_, rfl⟩
    rw [← hw6]
    have NT := hid (HN.out _ _ _ w7 _ _ (BA4.out _) hP4.out hO.out hS.out hN.out (by rw [hw7, hw6]))
    have s6 : St (fun x => x = g) w5 w6 := by rw [hw6]; exact St.setCell _ rfl
    have s7 : St (fun x => x = jb) w6 w7 := by rw [hw7]; exact St.setCell _ rfl
    have n1 : w6.cell? ⟨jb, 1, none⟩ = some (.int .i64 (tot (a ++ [s]) : Int)) := by
      rw [hw6, World.cell?_setCell_other _ _ _ _ (by intro q; exact e5 (congrArg Addr.block q).symm)]
      exact e3
    have n2 : w6.frozen? ⟨jb, 1, none⟩ = false := by rw [hw6, World.frozen?_setCell]; exact e4
    have n3 : w7.cell? ⟨jb, 3, none⟩ = some (.map (some mb)) := by
      rw [hw7, World.cell?_setCell_other _ _ _ _ (by intro q; simp at q), hw6, World.cell?_setCell_other _ _ _ _ (by intro q; exact e5 (congrArg Addr.block q).symm)]
      exact e7
    have X7 := s7.at (s6.at X5.out (by omega)) (by omega)
    have z0 := cell_blk (j := 0) X7 rfl
    have z1 := cell_blk (j := 1) X7 rfl
    have z2 := cell_blk (j := 2) X7 rfl
    have z3 := cell_blk (j := 3) X7 rfl
    have z4 := cell_blk (j := 4) X7 rfl
    have z5 := cell_blk (j := 5) X7 rfl
    have z6 := cell_blk (j := 6) X7 rfl
    have z7 := cell_blk (j := 7) X7 rfl
    have z8 := cell_blk (j := 8) X7 rfl
    have z9 := cell_blk (j := 9) X7 rfl
    have z10 := cell_blk (j := 10) X7 rfl
    have HW7 := hid hw7
    clear hw7 hw6 s6 s7 X5 X7 hP4 e1 e2 e3 e4 e5 e6 e7 y0 y1 y2 y3 y4 y5 y6 y7 y8 y9 y10 hO hS hN hB4 OW BA4 P3 X3 c33 c3 HN CP B3 hg3 hg3n
    go_upto_region 4 with fail
    rw [← HW7.out]
    clear HW7 n1 n2
    by_cases k3 : k = 3
    · subst k3
      go_wp2_with fail
      go_end0
      obtain ⟨t1, ⟨mb', t2, t3⟩, t4⟩ := NT.out
      exact ⟨rfl, _, _, t1.full t2 (t3.skip _ (by simp [Ue.with])), t4⟩
    · by_cases k5 : k = 5
      · subst k5
        go_wp2_with fail
        go_end0
        obtain ⟨t1, ⟨mb', t2, t3⟩, t4⟩ := NT.out
        exact ⟨rfl, _, _, t1.full t2 (t3.skip _ (by simp [Ue.with])), t4⟩
      · have b3 : (k != 3) = true := by simp [k3]
        have b5 : (k != 5) = true := by simp [k5]
        have ST : Hid (∀ w8, Below w7.heap.size w7 w8 → ∃ w9, (Instr.mapUpdate 66 (.map (some mb)) (.agg #[.int .i64 am.k, .int .i64 am.id, .int .i64 am.n]) (.agg #[])).run Tryd.prog w8 = .ok () w9 ∧ Hid (∃ v' ev', Jn B w9 jb (.slice (some ⟨g, off, none⟩) (a.length + 1) cap) (.map (some mb)) most (a ++ [⟨s.f, ev', s.l ++ [Ue.with ⟨k, id, p, .slice ad ps.length cc, ps, n, o⟩ v']⟩]) ∧ St (Fn jb (.slice (some ⟨g, off, none⟩) (a.length + 1) cap) (.map (some mb)) s) W w9)) := by
          intro w8 hb8
          obtain ⟨t1, ⟨mb', t2, t3⟩, t4⟩ := NT.out
          obtain rfl : mb = mb' := by simpa using t2
          have m8 := t3.kept (St.of_below (S := fun _ => False) hb8) (fun q => q)
          have j8 := t1.kept (mb := mb) (St.of_below hb8) t3.obj
          obtain ⟨w9, r1, r2, r3⟩ := m8.store (Ue.with ⟨k, id, p, .slice ad ps.length cc, ps, n, o⟩ (.slice ad3 ps.length cc3)) HU.out h0 h9 ⟨k3, k5⟩ (by have := HSL.out; omega)
          refine ⟨w9, ?_, _, _, (j8.kept r3 m8.obj).full rfl r2, ?_⟩
          · rw [HAM.out]; exact r1
          · exact (t4.trans (St.of_below (S := fun _ => False) hb8) fun _ _ q => q.elim).trans r3 fun x _ q => .inr (.inr (.inl (by rw [q])))
        clear NT
        go_upto_region 5 with fail
        go_region_with ((go_at_call 44; refine (AB.out _).mono ?_; rintro e w8 ⟨rfl, hb8⟩; have m3 := seen hb8 (Nat.le_refl _) n3; obtain ⟨w9, hr9, R9⟩ := ST.out w8 ((Below.refl _ _).drew.trans hb8); clear hb8))
        all_goals
          go_wp2_with fail
          go_end0
          exact ⟨rfl, R9.out⟩
  · have hP4 := hid (P3.out.later (bAl w3 (.cells #[.int .i64 k, .int .i64 id, .int .i64 p.c, .int .i64 p.v0, .int .i64 p.v1, .int .i64 p.v2, .int .i64 p.v3, .int .i64 p.t, .slice ad3 ps.length cc3, .int .i64 n, .int .i64 o] 38)))
    have X5 := hid (hS.out.at (blk_seen (bAl w3 (.cells #[.int .i64 k, .int .i64 id, .int .i64 p.c, .int .i64 p.v0, .int .i64 p.v1, .int .i64 p.v2, .int .i64 p.v3, .int .i64 p.t, .slice ad3 ps.length cc3, .int .i64 n, .int .i64 o] 38)) (Nat.le_refl _) X3.out) e6)
    obtain ⟨w6, hw6⟩ : ∃ w6, w6 = w5.setCell ⟨g, off + a.length * 2 + 1, none⟩ (.slice (some ⟨g', 0, none⟩) (s.l.length + 1) cap') := ⟨_, rfl⟩
    obtain ⟨w7, hw7⟩ : ∃ w7, w7 = w6.setCell ⟨jb, 1, none⟩ (.int .i64 ((tot (a ++ [s]) : Int) + 1)) := ⟨_, rfl⟩
    rw [← hw6]
    have NT := hid (HN.out _ _ _ w7 _ _ (BA4.out _) hP4.out hO.out hS.out hN.out (by rw [hw7, hw6]))
    have s6 : St (fun x => x = g) w5 w6 := by rw [hw6]; exact St.setCell _ rfl
    have s7 : St (fun x => x = jb) w6 w7 := by rw [hw7]; exact St.setCell _ rfl
    have n1 : w6.cell? ⟨jb, 1, none⟩ = some (.int .i64 (tot (a ++ [s]) : Int)) := by
      rw [hw6, World.cell?_setCell_other _ _ _ _ (by intro q; exact e5 (congrArg Addr.block q).symm)]
      exact e3
    have n2 : w6.frozen? ⟨jb, 1, none⟩ = false := by rw [hw6, World.frozen?_setCell]; exact e4
    have n3 : w7.cell? ⟨jb, 3, none⟩ = some (.map (some mb)) := by
      rw [hw7, World.cell?_setCell_other _ _ _ _ (by intro q; simp at q), hw6, World.cell?_setCell_other _ _ _ _ (by intro q; exact e5 (congrArg Addr.block q).symm)]
      exact e7
    have X7 := s7.at (s6.at X5.out (by omega)) (by omega)
    have z0 := cell_blk (j := 0) X7 rfl
    have z1 := cell_blk (j := 1) X7 rfl
    have z2 := cell_blk (j := 2) X7 rfl
    have z3 := cell_blk (j := 3) X7 rfl
    have z4 := cell_blk (j := 4) X7 rfl
    have z5 := cell_blk (j := 5) X7 rfl
    have z6 := cell_blk (j := 6) X7 rfl
    have z7 := cell_blk (j := 7) X7 rfl
    have z8 := cell_blk (j := 8) X7 rfl
    have z9 := cell_blk (j := 9) X7 rfl
    have z10 := cell_blk (j := 10) X7 rfl
    have HW7 := hid hw7
    clear hw7 hw6 s6 s7 X5 X7 hP4 e1 e2 e3 e4 e5 e6 e7 y0 y1 y2 y3 y4 y5 y6 y7 y8 y9 y10 hO hS hN hB4 OW BA4 P3 X3 c33 c3 HN CP B3 hg3 hg3n
    go_upto_region 4 with fail
    rw [← HW7.out]
    clear HW7 n1 n2
    by_cases k3 : k = 3
    · subst k3
      go_wp2_with fail
      go_end0
      obtain ⟨t1, ⟨mb', t2, t3⟩, t4⟩ := NT.out
      exact ⟨rfl, _, _, t1.full t2 (t3.skip _ (by simp [Ue.with])), t4⟩
    · by_cases k5 : k = 5
      · subst k5
        go_wp2_with fail
        go_end0
        obtain ⟨t1, ⟨mb', t2, t3⟩, t4⟩ := NT.out
        exact ⟨rfl, _, _, t1.full t2 (t3.skip _ (by simp [Ue.with])), t4⟩
      · have b3 : (k != 3) = true := by simp [k3]
        have b5 : (k != 5) = true := by simp [k5]
        have ST : Hid (∀ w8, Below w7.heap.size w7 w8 → ∃ w9, (Instr.mapUpdate 66 (.map (some mb)) (.agg #[.int .i64 am.k, .int .i64 am.id, .int .i64 am.n]) (.agg #[])).run Tryd.prog w8 = .ok () w9 ∧ Hid (∃ v' ev', Jn B w9 jb (.slice (some ⟨g, off, none⟩) (a.length + 1) cap) (.map (some mb)) most (a ++ [⟨s.f, ev', s.l ++ [Ue.with ⟨k, id, p, .slice ad ps.length cc, ps, n, o⟩ v']⟩]) ∧ St (Fn jb (.slice (some ⟨g, off, none⟩) (a.length + 1) cap) (.map (some mb)) s) W w9)) := by
          intro w8 hb8
          obtain ⟨t1, ⟨mb', t2, t3⟩, t4⟩ := NT.out
          obtain rfl : mb = mb' := by simpa using t2
          have m8 := t3.kept (St.of_below (S := fun _ => False) hb8) (fun q => q)
          have j8 := t1.kept (mb := mb) (St.of_below hb8) t3.obj
          obtain ⟨w9, r1, r2, r3⟩ := m8.store (Ue.with ⟨k, id, p, .slice ad ps.length cc, ps, n, o⟩ (.slice ad3 ps.length cc3)) HU.out h0 h9 ⟨k3, k5⟩ (by have := HSL.out; omega)
          refine ⟨w9, ?_, _, _, (j8.kept r3 m8.obj).full rfl r2, ?_⟩
          · rw [HAM.out]; exact r1
          · exact (t4.trans (St.of_below (S := fun _ => False) hb8) fun _ _ q => q.elim).trans r3 fun x _ q => .inr (.inr (.inl (by rw [q])))
        clear NT
        go_upto_region 5 with fail
        go_region_with ((go_at_call 44; refine (AB.out _).mono ?_; rintro e w8 ⟨rfl, hb8⟩; have m3 := seen hb8 (Nat.le_refl _) n3; obtain ⟨w9, hr9, R9⟩ := ST.out w8 ((Below.refl _ _).drew.trans hb8); clear hb8))
        all_goals
          go_wp2_with fail
          go_end0
          exact ⟨rfl, R9.out⟩
end
end Go.Proofs.YtnbgjbdbbmpoaaaDoor.Jo
