/- The document's Take. -/
import Derived.Test.YtpglanlpnapddaaDoorEf
namespace Go.Proofs.YtpglanlpnapddaaDoor
open Go.RowKit Go.Shelf Go.Maps
theorem Parts.cap_le {B : Nat} {W : World} {g n c : Nat} {cm : Int} {l : List Pt} (h : Parts B W (.slice (Option.some ⟨g, 0, none⟩) n c) cm l) : l.length ≤ c ∧ n = l.length := by
  rcases h.2 with ⟨h1, _⟩ | ⟨g', cap, cur, h1, h2, h3, h4, h5, h6, h7⟩
  · cases h1
  · simp only [Value.slice.injEq, Option.some.injEq, Addr.mk.injEq, and_true] at h1
    obtain ⟨rfl, rfl, rfl⟩ := h1
    exact ⟨h4, rfl⟩
/-- A row of parts in place of another, as Take leaves it. -/
theorem rc_cut {B : Nat} {w4 w6 : World} {ub vg vc : Nat} {lv : Value} {s : CS} (h : Rc B w4 ub lv s) (n : Nat) (hn : n < s.rows.length) (pl : Pt) (hb : Below w4.heap.size w4 w6) (ho : Parts w4.heap.size w6 (.slice (some ⟨vg, 0, none⟩) s.rows.length vc) s.comp s.rows) :
    Rc B ((putAt w6 vg (n * 6) s.comp pl).setCell ⟨ub, 2, none⟩ (.slice (some ⟨vg, 0, none⟩) (s.rows.length - 1) vc)) ub (.slice (some ⟨vg, 0, none⟩) (s.rows.length - 1) vc) (s.taken n pl) ∧ St (Fu ub lv) w4 ((putAt w6 vg (n * 6) s.comp pl).setCell ⟨ub, 2, none⟩ (.slice (some ⟨vg, 0, none⟩) (s.rows.length - 1) vc)) ∧ w4.heap.size ≤ vg := by
  have hv : w4.heap.size ≤ vg := (World.ownsRow.lt ho vg rfl).1
  have o1 := ho.putAt n hn pl
  have o2 : Parts w4.heap.size (putAt w6 vg (n * 6) s.comp pl) (.slice (some ⟨vg, 0, none⟩) (s.rows.length - 1) vc) s.comp (s.rows.set n pl).dropLast := by
    have e : (s.rows.set n pl).length = s.rows.length := List.length_set
    have := Parts.shrink (l := s.rows.set n pl) (by rw [e]; exact o1) (s.rows.length - 1) (by rw [e]; omega)
    rw [List.dropLast_eq_take, e]
    exact this
  have hb2 : Below w4.heap.size w4 (putAt w6 vg (n * 6) s.comp pl) := by
    have st := putAt_st w6 vg (n * 6) s.comp pl
    exact hb.trans (st.below (fun k hk => by rw [hk]; exact hv) hb.size)
  have hl : (s.rows.set n pl).dropLast.length ≤ 1000 := by have := h.small; simp; omega
  obtain ⟨r1, r2, r3⟩ := h.renew _ hl hb2 o2
  exact ⟨r1, r2, hv⟩
set_option maxHeartbeats 3200000 in
set_option maxRecDepth 100000 in
theorem rtake_ok {B : Nat} {W : World} {ub : Nat} {lv : Value} {s : CS} (h : Rc B W ub lv s) (n : Nat) (p : Pt) (hp : s.rows[n]? = some p) (pl : Pt) (hpl : s.rows[s.rows.length - 1]? = some pl) :
    Calls Tryd.prog 18 #[.pointer (some ⟨ub, 0, none⟩), .int .i64 (n : Int)] W fun e W' => e = .returned (.tuple #[p.val s.comp, .int .i64 0]) ∧ ∃ lv', Rc B W' ub lv' (s.taken n pl) ∧ St (Fu ub lv) W W' ∧ ∀ x, lv'.ownBlock = some x → W.heap.size ≤ x := by
  have hnl : n < s.rows.length := (List.getElem?_eq_some_iff.1 hp).1
  have hsm := h.small
  obtain ⟨la, lc, rfl⟩ := h.row.slice
  obtain ⟨lg, rfl⟩ := h.row.some (by omega)
  have BA : Hid (Below W.heap.size W (W.alloc (.cells #[.int .i64 0, .int .i64 0, .int .i64 0, .int .i64 0, .int .i64 0, .int .i64 0] 34))) := bAl _ _
  have HA := hid (rhas_any (h.later BA.out) (n : Int))
  rw [rowAt_nat, hp] at HA
  have R3 : Hid ((W.alloc (.cells #[.int .i64 0, .int .i64 0, .int .i64 0, .int .i64 0, .int .i64 0, .int .i64 0] 34)).heap[W.heap.size]? = some (.cells (Pt.zero.arr 0) 34 (0, 0))) := heap_alloc_new W _
  have H := hid h
  have HP := hid hp
  have HPL := hid hpl
  have hul : ub < W.heap.size := (h.lt ub (.inl rfl)).2
  have hni : (n : Int) < (s.rows.length : Int) := by omega
  have hri : (s.rows.length : Int) ≤ 1000 := by omega
  clear h hp hpl
  unfold Pt.val
  go_enter Tryd.func18, Tryd.ntmps18
  go_wp2_with fail
  refine HA.out.mono ?_
  rintro e w3 ⟨rfl, hw3⟩
  rw [← hw3] at R3 BA
  clear HA
  have B3 := BA
  have H3 := hid (H.out.later B3.out)
  have hz3 : W.heap.size < w3.heap.size := (Array.getElem?_eq_some_iff.1 R3.out).1
  have c2 := H3.out.c2
  obtain ⟨q0, q1, q2, q3, q4, q5⟩ := H3.out.row.cell HP.out
  have cl := World.block_lt_of_cell? w3 _ c2
  have cn := World.new_ne w3 _ c2
  obtain ⟨w4, hw4⟩ : ∃ w4, w4 = w3.alloc (.cells #[.int .i64 s.comp, .int .i64 p.a, .int .i64 p.b, .int .i64 p.c, .int .i64 p.d, .int .i64 p.t] 34) := ⟨_, rfl⟩
  have b34 : Below w3.heap.size w3 w4 := by rw [hw4]; exact bAl _ _
  have H4 := hid (H3.out.later b34)
  have O4 : Hid (w4.heap[w3.heap.size]? = some (.cells (p.arr s.comp) 34 (0, 0))) := by rw [hw4]; exact heap_alloc_new w3 _
  have R4 := hid (blk_seen b34 (Nat.le_refl _) R3.out)
  have B4 := hid (B3.out.trans (b34.mono B3.out.size))
  have hz4 : w3.heap.size < w4.heap.size := (Array.getElem?_eq_some_iff.1 O4.out).1
  have k2 := H4.out.c2
  have kl := World.block_lt_of_cell? w4 _ k2
  have kn := World.new_ne w4 _ k2
  have HW4 := hid hw4
  have hml : ([] : List Pt).length + s.rows.length ≤ 2000 := by simp; omega
  have YB : Hid (Below w4.heap.size w4 (w4.alloc (.cells #[] 34))) := bAl _ _
  have YO : Hid (Parts w4.heap.size (w4.alloc (.cells #[] 34)) (.slice (some ⟨w4.heap.size, 0, none⟩) 0 0) s.comp []) := no_part w4 w4.heap.size (Nat.le_refl _) s.comp
  have YL := hid (H4.out.row.later YB.out)
  clear b34 hw4 hw3 BA
  go_upto_region 5 with fail
  rw [← HW4.out]
  clear c2 q0 q1 q2 q3 q4 q5 cl cn
  go_upto_region 6 with (at_builtin; refine wpList_parts (xs := []) (w2 := w4) rfl _ _ rfl YB.out YO.out YL.out hml rfl rfl ?_; intro v5 w5 O5 B5; obtain ⟨va, vc, rfl⟩ := Parts.slice O5.out; obtain ⟨vg, rfl⟩ := Parts.some O5.out (by simp; omega))
  have o5 : Parts w4.heap.size w5 (.slice (some ⟨vg, 0, none⟩) s.rows.length vc) s.comp s.rows := O5.out
  have HO5 := hid o5
  have CU := hid (rc_cut H4.out n hnl pl B5.out HO5.out)
  obtain ⟨m, hm⟩ : ∃ m, s.rows.length = m + 1 := ⟨s.rows.length - 1, by omega⟩
  have hlm : s.rows[m]? = some pl := by have := HPL.out; rw [hm] at this; exact this
  obtain ⟨g0, g1, g2, g3, g4, g5⟩ := Parts.cell o5 hlm
  obtain ⟨e0, e1, e2, e3, e4, e5⟩ := Parts.cell o5 HP.out
  have f0 := o5.free (n * 6)
  have f1 := o5.free (n * 6 + 1)
  have f2 := o5.free (n * 6 + 2)
  have f3 := o5.free (n * 6 + 3)
  have f4 := o5.free (n * 6 + 4)
  have f5 := o5.free (n * 6 + 5)
  have hnm : (n : Int) < (m : Int) + 1 := by omega
  have hmc : s.rows.length ≤ vc := o5.cap_le.1
  clear o5 O5 YB YO YL k2 kl kn hlm
  go_upto_region 7 with fail
  obtain ⟨w6, hw6⟩ : ∃ w6, w6 = putAt w5 vg (n * 6) s.comp pl := ⟨_, rfl⟩
  have HW6 := hid hw6
  unfold putAt at HW6
  rw [← HW6.out]
  have hvg : w4.heap.size ≤ vg := CU.out.2.2
  have b6 : Below w4.heap.size w4 w6 := by
    have st := putAt_st w5 vg (n * 6) s.comp pl
    rw [← hw6] at st
    exact B5.out.trans (st.below (fun k hk => by rw [hk]; exact hvg) B5.out.size)
  rw [← hw6] at CU
  have kf := blk_free (H4.out.later b6).box 2
  have ku := (H4.out.later b6).c2
  have hmi : (s.rows.length : Int) ≤ (vc : Int) := by omega
  have hm1 : (s.rows.length : Int) - 1 = ((s.rows.length - 1 : Nat) : Int) := by omega
  have hm2 : s.rows.length - 1 = m := by omega
  have hm3 : ((s.rows.length : Int) - 1).toNat = m := by omega
  have hm4 : (0 : Int) ≤ (s.rows.length : Int) - 1 := by omega
  clear g0 g1 g2 g3 g4 g5 e0 e1 e2 e3 e4 e5 f0 f1 f2 f3 f4 f5 hw6
  go_upto_region 8 with fail
  rw [hm2] at CU
  obtain ⟨w7, hw7⟩ : ∃ w7, w7 = w6.setCell ⟨ub, 2, none⟩ (.slice (some ⟨vg, 0, none⟩) m vc) := ⟨_, rfl⟩
  rw [← hw7] at CU
  rw [← hw7]
  have CV := CU
  obtain ⟨rc7, s47, -⟩ := CU.out
  have hlg : lg < W.heap.size := (H.out.lt lg (.inr rfl)).2
  have nF : ∀ k, k ≠ ub → k ≠ lg → ¬ Fu ub (.slice (some ⟨lg, 0, none⟩) s.rows.length lc) k := fun k h1 h2 e => e.elim h1 (fun e => h2 (by simpa [Value.ownBlock] using e.symm))
  have R7 := hid (s47.at R4.out (nF _ (by omega) (by omega)))
  have O7 := hid (s47.at O4.out (nF _ (by omega) (by omega)))
  obtain ⟨d0, d1, d2, d3, d4, d5, -, -, -, -, -, -⟩ := lies O7.out
  obtain ⟨x0, x1, x2, x3, x4, x5, y0, y1, y2, y3, y4, y5⟩ := lies R7.out
  clear rc7 s47 hw7 kf ku CU HW6
  go_wp2_with fail
  have PB := put6_blk R7.out rfl s.comp p
  have PS := put6_st w7 W.heap.size s.comp p
  unfold put6 at PB PS
  obtain ⟨d0, d1, d2, d3, d4, d5, -, -, -, -, -, -⟩ := lies PB
  generalize (((((w7.setCell ⟨W.heap.size, 0, none⟩ (.int .i64 s.comp)).setCell ⟨W.heap.size, 1, none⟩ (.int .i64 p.a)).setCell ⟨W.heap.size, 2, none⟩ (.int .i64 p.b)).setCell ⟨W.heap.size, 3, none⟩ (.int .i64 p.c)).setCell ⟨W.heap.size, 4, none⟩ (.int .i64 p.d)).setCell ⟨W.heap.size, 5, none⟩ (.int .i64 p.t) = w8 at *
  have FN : Rc B w8 ub (.slice (some ⟨vg, 0, none⟩) m vc) (s.taken n pl) := CV.out.1.kept PS fun k hk e => by
    rcases hk with rfl | hk
    · omega
    · have : vg = k := by simpa [Value.ownBlock] using hk
      omega
  have SF : St (Fu ub (.slice (some ⟨lg, 0, none⟩) s.rows.length lc)) W w8 := ((St.of_below B4.out).trans CV.out.2.1 fun _ _ q => q).trans PS fun k hk e => by omega
  have XF : ∀ x, (Value.slice (some ⟨vg, 0, none⟩) m vc).ownBlock = some x → W.heap.size ≤ x := by
    intro x hx
    have : vg = x := by simpa [Value.ownBlock] using hx
    omega
  exact bodyPost_ret (v := .tuple #[.agg #[.int .i64 s.comp, .int .i64 p.a, .int .i64 p.b, .int .i64 p.c, .int .i64 p.d, .int .i64 p.t], .int .i64 0]) (by simp [results, Tryd.results18, go_sem, d0, d1, d2, d3, d4, d5]) rfl ⟨rfl, _, FN, SF, XF⟩
end Go.Proofs.YtpglanlpnapddaaDoor
