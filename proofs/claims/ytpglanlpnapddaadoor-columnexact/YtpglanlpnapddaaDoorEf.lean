/- The document's Put. -/
import Derived.Test.YtpglanlpnapddaaDoorEe
import Derived.Test.YtpglanlpnapddaaDoorEc
import Derived.Deep.DeepCutAuto
import Derived.Deep.CutRange
namespace Go.Proofs.YtpglanlpnapddaaDoor
open Go.RowKit Go.Shelf Go.Maps
theorem Rc.putAt {B : Nat} {W : World} {ub g c : Nat} {s : CS} (h : Rc B W ub (.slice (some ⟨g, 0, none⟩) s.rows.length c) s) (n : Nat) (hn : n < s.rows.length) (q : Pt) : Rc B (putAt W g (n * 6) s.comp q) ub (.slice (some ⟨g, 0, none⟩) s.rows.length c) (s.turned n q) := by
  have hne := h.ne g rfl
  refine ⟨(putAt_st W g (n * 6) s.comp q).at h.box (fun e => hne e.symm), h.row.putAt n hn q, h.low, h.w0, h.w4, ?_⟩
  show (s.rows.set n q).length ≤ 1000
  rw [List.length_set]; exact h.small
theorem putAt_std (W : World) (b o : Nat) (cm : Int) (p : Pt) : St (fun k => k = b) W (putAt W b o cm p).drew := by
  have s' := putAt_st W b o cm p
  generalize Go.Proofs.YtpglanlpnapddaaDoor.putAt W b o cm p = w at *
  exact ⟨s'.os, s'.tape, s'.output, s'.size, s'.block⟩
theorem Rc.drew {B : Nat} {W : World} {ub : Nat} {lv : Value} {s : CS} (h : Rc B W ub lv s) : Rc B W.drew ub lv s := h.later (Below.refl W.heap.size W).drew
set_option maxHeartbeats 3200000 in
set_option maxRecDepth 100000 in
theorem rput_ok {B : Nat} {W : World} {ub : Nat} {lv : Value} {s : CS} (h : Rc B W ub lv s) (n : Nat) (p : Pt) (hp : s.rows[n]? = some p) (q : Pt) (hf : q.fitB s.w = true) :
    Calls Tryd.prog 16 #[.pointer (some ⟨ub, 0, none⟩), .int .i64 (n : Int), q.val s.comp] W fun e W' => e = .returned (.tuple #[p.val s.comp, .int .i64 0]) ∧ ∃ lv', Rc B W' ub lv' (s.turned n q) ∧ St (Fu ub lv) W W' ∧ ∀ x, lv'.ownBlock = some x → W.heap.size ≤ x := by
  have hnl : n < s.rows.length := (List.getElem?_eq_some_iff.1 hp).1
  have hsm := h.small
  obtain ⟨la, lc, rfl⟩ := h.row.slice
  obtain ⟨lg, rfl⟩ := h.row.some (by omega)
  have BA : Hid (Below W.heap.size W ((W.alloc (.cells (q.arr s.comp) 34)).alloc (.cells #[.int .i64 0, .int .i64 0, .int .i64 0, .int .i64 0, .int .i64 0, .int .i64 0] 34))) := (bAl _ _).alloc (by simp) _
  have HA := hid (rhas_any (h.later BA.out) (n : Int))
  rw [rowAt_nat, hp] at HA
  have FI := hid (fits_any (h.later BA.out) s.comp q)
  rw [show ((s.comp == s.comp) && q.fitB s.w) = true by simp [hf]] at FI
  have HH0 : Hid (((W.alloc (.cells (q.arr s.comp) 34)).alloc (.cells #[.int .i64 0, .int .i64 0, .int .i64 0, .int .i64 0, .int .i64 0, .int .i64 0] 34)).heap[W.heap.size + 1]? = some (.cells (Pt.zero.arr 0) 34 (0, 0))) := by
    have := heap_alloc_new (W.alloc (.cells (q.arr s.comp) 34)) (.cells #[.int .i64 0, .int .i64 0, .int .i64 0, .int .i64 0, .int .i64 0, .int .i64 0] 34)
    rw [World.size_alloc] at this
    exact this
  have PP0 : Hid (((W.alloc (.cells (q.arr s.comp) 34)).alloc (.cells #[.int .i64 0, .int .i64 0, .int .i64 0, .int .i64 0, .int .i64 0, .int .i64 0] 34)).heap[W.heap.size]? = some (.cells (q.arr s.comp) 34 (0, 0))) := by
    show _ = _
    rw [Below.heap_alloc _ _ _ (by simp)]; exact heap_alloc_new W _
  have H := hid h
  have HP := hid hp
  have hul : ub < W.heap.size := (h.lt ub (.inl rfl)).2
  have hni : (n : Int) < (s.rows.length : Int) := by omega
  have hri : (s.rows.length : Int) ≤ 1000 := by omega
  clear h hf hp
  unfold Pt.val at FI ⊢
  unfold Pt.arr at FI BA HH0 PP0 HA
  go_enter Tryd.func16, Tryd.ntmps16
  go_wp2_with fail
  refine HA.out.mono ?_
  rintro e w1 ⟨rfl, rfl⟩
  clear HA
  go_wp2_with fail
  refine FI.out.mono ?_
  rintro e w3 ⟨rfl, hb⟩
  have B3 := hid (BA.out.trans (hb.mono BA.out.size))
  have R3 : Hid (w3.heap[W.heap.size + 1]? = some (.cells (Pt.zero.arr 0) 34 (0, 0))) := blk_seen hb (Nat.le_refl _) HH0.out
  have P3 : Hid (w3.heap[W.heap.size]? = some (.cells (q.arr s.comp) 34 (0, 0))) := blk_seen hb (Nat.le_refl _) PP0.out
  have H3 := hid (H.out.later B3.out)
  have hz3 : W.heap.size + 1 < w3.heap.size := (Array.getElem?_eq_some_iff.1 R3.out).1
  have c2 := H3.out.c2
  obtain ⟨q0, q1, q2, q3, q4, q5⟩ := H3.out.row.cell HP.out
  have cl := World.block_lt_of_cell? w3 _ c2
  have cn := World.new_ne w3 _ c2
  obtain ⟨w4, hw4⟩ : ∃ w4, w4 = w3.alloc (.cells #[.int .i64 s.comp, .int .i64 p.a, .int .i64 p.b, .int .i64 p.c, .int .i64 p.d, .int .i64 p.t] 34) := ⟨_, rfl⟩
  have b34 : Below w3.heap.size w3 w4 := by rw [hw4]; exact bAl _ _
  have H4 := hid (H3.out.later b34)
  have O4 : Hid (w4.heap[w3.heap.size]? = some (.cells (p.arr s.comp) 34 (0, 0))) := by rw [hw4]; exact heap_alloc_new w3 _
  have R4 := hid (blk_seen b34 (Nat.le_refl _) R3.out)
  have P4 := hid (blk_seen b34 (Nat.le_refl _) P3.out)
  have B4 := hid (B3.out.trans (b34.mono B3.out.size))
  have hz4 : w3.heap.size < w4.heap.size := (Array.getElem?_eq_some_iff.1 O4.out).1
  have k2 := H4.out.c2
  have kl := World.block_lt_of_cell? w4 _ k2
  have kn := World.new_ne w4 _ k2
  have HW4 := hid hw4
  have hml : ([] : List Pt).length + s.rows.length ≤ 2000 := by simp; omega
  have YB : Hid (Below w4.heap.size w4 (w4.alloc (.cells #[] 34))) := bAl _ _
  have YO : Hid (Parts w4.heap.size (w4.alloc (.cells #[] 34)) (.slice (some ⟨w4.heap.size, 0, none⟩) 0 0) s.comp []) := no_part w4 w4.heap.size (Nat.le_refl _) s.comp
  have YL := hid (H4.out.row.later YB.out)
  clear hb FI HH0 PP0 b34 hw4
  go_upto_region 6 with fail
  rw [← HW4.out]
  clear c2 q0 q1 q2 q3 q4 q5 cl cn
  go_wp2_with (at_builtin; refine wpList_parts (xs := []) (w2 := w4) rfl _ _ rfl YB.out YO.out YL.out hml rfl rfl ?_; intro v5 w5 O5 B5; have ku := (H4.out.later B5.out).c2; have kf := blk_free (H4.out.later B5.out).box 2; obtain ⟨va, vc, rfl⟩ := Parts.slice O5.out; obtain ⟨vg, rfl⟩ := Parts.some O5.out (by simp; omega))
  have ev : ([] ++ s.rows).length = s.rows.length := rfl
  obtain ⟨w6, hw6⟩ : ∃ w6, w6 = w5.setCell ⟨ub, 2, none⟩ (.slice (some ⟨vg, 0, none⟩) s.rows.length vc) := ⟨_, rfl⟩
  rw [← hw6]
  obtain ⟨rc6, s46, x6⟩ := H4.out.renew s.rows hsm B5.out (show Parts w4.heap.size w5 (.slice (some ⟨vg, 0, none⟩) s.rows.length vc) s.comp s.rows from O5.out)
  rw [← hw6] at rc6 s46
  have hvg : w4.heap.size ≤ vg := x6 vg rfl
  have hz6 : w4.heap.size ≤ w6.heap.size := s46.size
  have nF : ∀ k, k < w4.heap.size → k ≠ ub → k ≠ lg → ¬ Fu ub (.slice (some ⟨lg, 0, none⟩) s.rows.length lc) k := fun k _ h1 h2 e => e.elim h1 (fun e => h2 (by simpa [Value.ownBlock] using e.symm))
  have hlg : lg < W.heap.size := (H.out.lt lg (.inr rfl)).2
  have P6 := s46.at P4.out (nF _ (by omega) (by omega) (by omega))
  have R6 := s46.at R4.out (nF _ (by omega) (by omega) (by omega))
  have O6 := s46.at O4.out (nF _ (by omega) (by omega) (by omega))
  have RC6 := hid rc6
  have S46 := hid s46
  have HR6 := hid R6
  have HO6 := hid O6
  obtain ⟨a0, a1, a2, a3, a4, a5, -, -, -, -, -, -⟩ := lies P6
  obtain ⟨e0, e1, e2, e3, e4, e5⟩ := rc6.row.cell HP.out
  have f0 := rc6.row.free (n * 6)
  have f1 := rc6.row.free (n * 6 + 1)
  have f2 := rc6.row.free (n * 6 + 2)
  have f3 := rc6.row.free (n * 6 + 3)
  have f4 := rc6.row.free (n * 6 + 4)
  have f5 := rc6.row.free (n * 6 + 5)
  have m2 := rc6.c2
  have hx6 := hid x6
  clear rc6 s46 P6 R6 O6 x6 ku kf k2 kl kn ev hw6 YB YO YL O5
  go_region_law (fail)
  all_goals
    obtain ⟨w7, hw7⟩ : ∃ w7, w7 = (putAt w6 vg (n * 6) s.comp q).drew := ⟨_, rfl⟩
    have HW7 := hid hw7
    unfold putAt at HW7
    rw [← HW7.out]
    have s67 : St (fun k => k = vg) w6 w7 := by
      rw [hw7]; exact putAt_std w6 vg (n * 6) s.comp q
    have RC7 : Hid (Rc B w7 ub (.slice (some ⟨vg, 0, none⟩) s.rows.length vc) (s.turned n q)) := by
      have t := (RC6.out.putAt n hnl q).drew
      rw [← hw7] at t
      exact hid t
    have R7 := hid (s67.at HR6.out (by omega))
    have O7 := hid (s67.at HO6.out (by omega))
    have S67 := hid s67
    obtain ⟨d0, d1, d2, d3, d4, d5, -, -, -, -, -, -⟩ := lies O7.out
    obtain ⟨x0, x1, x2, x3, x4, x5, y0, y1, y2, y3, y4, y5⟩ := lies R7.out
    clear s67 hw7 a0 a1 a2 a3 a4 a5 e0 e1 e2 e3 e4 e5 f0 f1 f2 f3 f4 f5 m2
    go_wp2_with fail
    have PB := put6_blk R7.out rfl s.comp p
    have PS := put6_st w7 (W.heap.size + 1) s.comp p
    unfold put6 at PB PS
    obtain ⟨d0, d1, d2, d3, d4, d5, -, -, -, -, -, -⟩ := lies PB
    generalize (((((w7.setCell ⟨W.heap.size + 1, 0, none⟩ (.int .i64 s.comp)).setCell ⟨W.heap.size + 1, 1, none⟩ (.int .i64 p.a)).setCell ⟨W.heap.size + 1, 2, none⟩ (.int .i64 p.b)).setCell ⟨W.heap.size + 1, 3, none⟩ (.int .i64 p.c)).setCell ⟨W.heap.size + 1, 4, none⟩ (.int .i64 p.d)).setCell ⟨W.heap.size + 1, 5, none⟩ (.int .i64 p.t) = w8 at *
    have FN : Rc B w8 ub (.slice (some ⟨vg, 0, none⟩) s.rows.length vc) (s.turned n q) := RC7.out.kept PS fun k hk e => by
      rcases hk with rfl | hk
      · omega
      · have : vg = k := by simpa [Value.ownBlock] using hk
        omega
    have SF : St (Fu ub (.slice (some ⟨lg, 0, none⟩) s.rows.length lc)) W w8 := (((St.of_below B4.out).trans S46.out fun _ _ q => q).trans S67.out fun k hk e => by omega).trans PS fun k hk e => by omega
    have XF : ∀ x, (Value.slice (some ⟨vg, 0, none⟩) s.rows.length vc).ownBlock = some x → W.heap.size ≤ x := by
      intro x hx
      have : vg = x := by simpa [Value.ownBlock] using hx
      omega
    exact bodyPost_ret (v := .tuple #[.agg #[.int .i64 s.comp, .int .i64 p.a, .int .i64 p.b, .int .i64 p.c, .int .i64 p.d, .int .i64 p.t], .int .i64 0]) (by simp [results, Tryd.results16, go_sem, d0, d1, d2, d3, d4, d5]) rfl ⟨rfl, _, FN, SF, XF⟩
end Go.Proofs.YtpglanlpnapddaaDoor
