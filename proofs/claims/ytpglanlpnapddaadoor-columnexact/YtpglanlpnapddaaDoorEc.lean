/- The document's Push. -/
import Derived.Test.YtpglanlpnapddaaDoorEb
namespace Go.Proofs.YtpglanlpnapddaaDoor
open Go.RowKit Go.Shelf Go.Maps
theorem Parts.lower {B B' : Nat} {W : World} {v : Value} {cm : Int} {l : List Pt} (h : Parts B W v cm l) (hB : B' ≤ B) : Parts B' W v cm l :=
  ⟨h.1, h.2.elim .inl fun ⟨g, cap, cur, h1, h2, h3⟩ => .inr ⟨g, cap, cur, h1, by omega, h3⟩⟩
theorem one_part {W : World} {b : Nat} {cm : Int} {p : Pt} (h : W.heap[b]? = some (.cells (p.arr cm) 34 (0, 0))) : Parts 0 W (.slice (some ⟨b, 0, none⟩) 1 1) cm [p] :=
  ⟨rfl, .inr ⟨b, 1, p.arr cm, rfl, Nat.zero_le _, h, Nat.le_refl _, by unfold maxLen; omega, rfl, by simp [partCells, Pt.arr]⟩⟩
theorem no_part (W : World) (N : Nat) (hN : N ≤ W.heap.size) (cm : Int) : Parts N (W.alloc (.cells #[] 34)) (.slice (some ⟨W.heap.size, 0, none⟩) 0 0) cm [] :=
  World.ownsRow_lit (base := N) (e := 34) (size := 6) W #[] 0 hN (Nat.zero_le _) rfl
/-- The document's column with other rows. -/
theorem Rc.renew {B : Nat} {w2 w5 : World} {ub : Nat} {lv lv' : Value} {s : CS} (h : Rc B w2 ub lv s) (l : List Pt) (hl : l.length ≤ 1000) (hb : Below w2.heap.size w2 w5) (ho : Parts w2.heap.size w5 lv' s.comp l) :
    Rc B (w5.setCell ⟨ub, 2, none⟩ lv') ub lv' ⟨s.comp, s.w, l⟩ ∧ St (Fu ub lv) w2 (w5.setCell ⟨ub, 2, none⟩ lv') ∧ ∀ x, lv'.ownBlock = some x → w2.heap.size ≤ x := by
  have l1 := (h.lt ub (.inl rfl)).2
  have hx : ∀ x, lv'.ownBlock = some x → w2.heap.size ≤ x := fun x hx => (World.ownsRow.lt ho x hx).1
  have b5 := blk_seen hb (Nat.le_refl _) h.box
  refine ⟨⟨heap_setCell_same w5 ub 2 _ 53 lv' b5, ?_, h.low, h.w0, h.w4, hl⟩, ?_, hx⟩
  · refine (ho.lower h.base).kept (T := fun k => k = ub) (St.setCell (S := fun k => k = ub) (p := ⟨ub, 2, none⟩) _ rfl) fun x hx' e => ?_
    have := hx x hx'
    omega
  · exact (St.of_below (S := Fu ub lv) hb).trans (St.setCell (S := Fu ub lv) (p := ⟨ub, 2, none⟩) _ (.inl rfl)) fun _ _ q => q
set_option maxHeartbeats 800000 in
set_option maxRecDepth 100000 in
theorem rpush_bad {B : Nat} {W : World} {ub : Nat} {lv : Value} {s : CS} (h : Rc B W ub lv s) (cm : Int) (p : Pt) (hc : ((cm == s.comp) && p.fitB s.w) = false) :
    Calls Tryd.prog 12 #[.pointer (some ⟨ub, 0, none⟩), p.val cm] W fun e W' => e = .returned (.tuple #[.int .i64 0, .int .i64 1]) ∧ Below W.heap.size W W' := by
  have BA : Hid (Below W.heap.size W (W.alloc (.cells (p.arr cm) 34))) := bAl _ _
  have FI := hid (fits_any (h.later BA.out) cm p)
  rw [hc] at FI
  clear h hc
  unfold Pt.val at FI ⊢
  unfold Pt.arr at FI BA
  go_enter Tryd.func12, Tryd.ntmps12
  go_wp2_with fail
  refine FI.out.mono ?_
  rintro e w1 ⟨rfl, hb⟩
  have HB := hid (BA.out.trans (hb.mono BA.out.size))
  clear hb FI
  go_wp2_with fail
  go_ret2
  exact ⟨rfl, HB.out⟩
set_option maxHeartbeats 3200000 in
set_option maxRecDepth 100000 in
theorem rpush_ok {B : Nat} {W : World} {ub : Nat} {lv : Value} {s : CS} (h : Rc B W ub lv s) (p : Pt) (hf : p.fitB s.w = true) (hsm : s.rows.length < 1000) :
    Calls Tryd.prog 12 #[.pointer (some ⟨ub, 0, none⟩), p.val s.comp] W fun e W' => e = .returned (.tuple #[.int .i64 (s.rows.length : Int), .int .i64 0]) ∧ ∃ lv', Rc B W' ub lv' ⟨s.comp, s.w, s.rows ++ [p]⟩ ∧ St (Fu ub lv) W W' ∧ ∀ x, lv'.ownBlock = some x → W.heap.size ≤ x := by
  have BA : Hid (Below W.heap.size W (W.alloc (.cells (p.arr s.comp) 34))) := bAl _ _
  have FI := hid (fits_any (h.later BA.out) s.comp p)
  rw [show ((s.comp == s.comp) && p.fitB s.w) = true by simp [hf]] at FI
  have HA0 : Hid ((W.alloc (.cells (p.arr s.comp) 34)).heap[W.heap.size]? = some (.cells (p.arr s.comp) 34 (0, 0))) := heap_alloc_new W _
  have H := hid h
  have hul : ub < W.heap.size := (h.lt ub (.inl rfl)).2
  obtain ⟨la, lc, rfl⟩ := h.row.slice
  clear h hf
  unfold Pt.val at FI ⊢
  unfold Pt.arr at FI BA HA0
  go_enter Tryd.func12, Tryd.ntmps12
  go_wp2_with fail
  refine FI.out.mono ?_
  rintro e w2 ⟨rfl, hb⟩
  have HB := hid (BA.out.trans (hb.mono BA.out.size))
  have HP : Hid (w2.heap[W.heap.size]? = some (.cells (p.arr s.comp) 34 (0, 0))) := blk_seen hb (Nat.le_refl _) HA0.out
  have H2 := hid (H.out.later HB.out)
  have hW2 : W.heap.size < w2.heap.size := (Array.getElem?_eq_some_iff.1 HP.out).1
  have KE : Hid (∀ W', Below w2.heap.size w2 W' → Lies W' W.heap.size s.comp p) := fun W' hb => lies (blk_seen hb (Nat.le_refl _) HP.out)
  have KU : Hid (∀ W', Below w2.heap.size w2 W' → W'.cell? ⟨ub, 2, none⟩ = some (.slice la s.rows.length lc) ∧ W'.frozen? ⟨ub, 2, none⟩ = false) := fun W' hb => ⟨(H2.out.later hb).c2, blk_free (H2.out.later hb).box 2⟩
  have KL : Hid (∀ W', Below w2.heap.size w2 W' → Parts B W' (.slice la s.rows.length lc) s.comp s.rows) := fun W' hb => H2.out.row.later hb
  have x2 := H2.out.c2
  obtain ⟨k0, k1, k2, k3, k4, k5, -, -, -, -, -, -⟩ := KE.out _ (Below.refl _ _)
  have u2 : ub < w2.heap.size := by omega
  have u3 : ¬ (ub = w2.heap.size) := by omega
  have u4 : ¬ (ub = w2.heap.size + 1) := by omega
  have hWn : ¬ (W.heap.size = w2.heap.size) := by omega
  have hWn1 : ¬ (W.heap.size = w2.heap.size + 1) := by omega
  have hml1 : ([] : List Pt).length + s.rows.length ≤ 2000 := by simp; omega
  have hml2 : s.rows.length + [p].length ≤ 2000 := by simp; omega
  have HYa : Hid (Below w2.heap.size w2 ((w2.alloc (.cells (p.arr s.comp) 34)).alloc (.cells #[] 34)).drew) := (((Below.refl _ _).alloc (Nat.le_refl _) _).alloc (by simp) _).drew
  have HYb : Hid (Below w2.heap.size w2 ((w2.alloc (.cells #[] 34)).alloc (.cells (p.arr s.comp) 34)).drew) := (((Below.refl _ _).alloc (Nat.le_refl _) _).alloc (by simp) _).drew
  have HYc : Hid (Below w2.heap.size w2 (w2.alloc (.cells #[] 34)).drew) := ((Below.refl _ _).alloc (Nat.le_refl _) _).drew
  have HOa : Hid (Parts w2.heap.size ((w2.alloc (.cells (p.arr s.comp) 34)).alloc (.cells #[] 34)).drew (.slice (some ⟨w2.heap.size + 1, 0, none⟩) 0 0) s.comp []) := by
    have := no_part (w2.alloc (.cells (p.arr s.comp) 34)) w2.heap.size (by simp) s.comp
    rw [World.size_alloc] at this
    exact this
  have HOb : Hid (Parts w2.heap.size ((w2.alloc (.cells #[] 34)).alloc (.cells (p.arr s.comp) 34)).drew (.slice (some ⟨w2.heap.size, 0, none⟩) 0 0) s.comp []) := (no_part w2 w2.heap.size (Nat.le_refl _) s.comp).later (bAl _ _).drew
  have HOc : Hid (Parts w2.heap.size (w2.alloc (.cells #[] 34)).drew (.slice (some ⟨w2.heap.size, 0, none⟩) 0 0) s.comp []) := no_part w2 w2.heap.size (Nat.le_refl _) s.comp
  have Hka : Hid (((w2.alloc (.cells (p.arr s.comp) 34)).alloc (.cells #[] 34)).drew.heap[w2.heap.size]? = some (.cells (p.arr s.comp) 34 (0, 0))) := (Below.heap_alloc _ _ _ (by simp)).trans (heap_alloc_new w2 _)
  have Hkb : Hid (((w2.alloc (.cells #[] 34)).alloc (.cells (p.arr s.comp) 34)).drew.heap[w2.heap.size + 1]? = some (.cells (p.arr s.comp) 34 (0, 0))) := by
    have := heap_alloc_new (w2.alloc (.cells #[] 34)) (.cells (p.arr s.comp) 34)
    rw [World.size_alloc] at this
    exact this
  have hfin : Hid (∀ w5 lv', Below w2.heap.size w2 w5 → Parts w2.heap.size w5 lv' s.comp (s.rows ++ [p]) → Rc B (w5.setCell ⟨ub, 2, none⟩ lv') ub lv' ⟨s.comp, s.w, s.rows ++ [p]⟩ ∧ St (Fu ub (.slice la s.rows.length lc)) w2 (w5.setCell ⟨ub, 2, none⟩ lv') ∧ ∀ x, lv'.ownBlock = some x → w2.heap.size ≤ x) := fun w5 lv' hb ho => H2.out.renew (s.rows ++ [p]) (by simp; omega) hb ho
  unfold Pt.arr at HYa HYb HOa HOb Hka Hkb
  clear hb FI HA0 H H2 HP
  go_wp2_with fail
  go_region_law (first
      | (refine step_parts (xs := []) (w2 := w2) rfl _ _ rfl HYa.out HOa.out (KL.out _ HYa.out) hml1 rfl rfl ?_; intro v4 w4 H4 HB4 HK4; have S4 := hid (one_part (p := p) ((HK4.out w2.heap.size (by simp; omega) (by simp [Value.ownBlock])).trans Hka.out)); clear HK4)
      | (refine step_parts (xs := []) (w2 := w2) rfl _ _ rfl HYb.out HOb.out (KL.out _ HYb.out) hml1 rfl rfl ?_; intro v4 w4 H4 HB4 HK4; have S4 := hid (one_part (p := p) ((HK4.out (w2.heap.size + 1) (by simp) (by simp [Value.ownBlock])).trans Hkb.out)); clear HK4)
      | (refine step_parts (xs := []) (w2 := w2) rfl _ _ rfl HYc.out HOc.out (KL.out _ HYc.out) hml1 rfl rfl ?_; intro v4 w4 H4 HB4 HK4; have S4 := hid True.intro; obtain ⟨m0, m1, m2, m3, m4, m5, -, -, -, -, -, -⟩ := KE.out _ HB4.out; have hW4 : W.heap.size < w4.heap.size := (World.block_lt_of_cell? w4 _ m0); have hW4n : ¬ (W.heap.size = w4.heap.size) := by omega
         clear HK4)
      | (refine step_parts (xs := s.rows) (ns := [p]) (w2 := w2) rfl _ _ rfl HB4.out H4.out S4.out hml2 rfl rfl ?_; intro v5 w5 H5 HB5 HK5; obtain ⟨l5, c5, rfl⟩ := H5.out.slice; have ku := (KU.out _ HB5.out).1; have kf := (KU.out _ HB5.out).2; clear HK5)
      | (refine step_parts (xs := s.rows) (ns := [p]) (w2 := w2) rfl _ _ rfl (HB4.out.trans ((bAl w4 _).mono HB4.out.size)) (Parts.later H4.out (bAl w4 _)) (one_part (p := p) (heap_alloc_new w4 _)) hml2 rfl rfl ?_; intro v5 w5 H5 HB5 HK5; obtain ⟨l5, c5, rfl⟩ := H5.out.slice; have ku := (KU.out _ HB5.out).1; have kf := (KU.out _ HB5.out).2; clear HK5))
  all_goals
    have HF := hid (hfin.out _ _ HB5.out H5.out)
    have hri : (s.rows.length : Int) ≤ 1000 := by omega
    clear kf KE KU KL hfin HYa HYb HYc HOa HOb HOc Hka Hkb H4 HB4 S4 k0 k1 k2 k3 k4 k5 x2
    go_wp2_with fail
    go_ret2
    obtain ⟨h1, h2, h3⟩ := HF.out
    have e1 : (s.rows ++ [p]).length = s.rows.length + 1 := by simp
    rw [e1] at h1 h2 h3
    exact ⟨by simp, _, h1, (St.of_below HB.out).trans h2 fun _ _ q => q, fun x hx => Nat.le_trans HB.out.size (h3 x hx)⟩
end Go.Proofs.YtpglanlpnapddaaDoor
