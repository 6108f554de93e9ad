/- Put, of a part that fits. -/
import Derived.Test.YtpglanlpnapddaaDoorCo
namespace Go.Proofs.YtpglanlpnapddaaDoor
open Go.RowKit Go.Shelf Go.Maps
set_option maxHeartbeats 3200000 in
set_option maxRecDepth 100000 in
theorem put_ok {B : Nat} {W : World} {rb mb : Nat} {sv : Value} {s : CS} (h : Cl B W rb mb sv s) (n : Nat) (p : Pt) (hp : s.rows[n]? = some p) (q : Pt) (hf : q.fitB s.w = true) (ht : I64 q.t) :
    Calls Tryd.prog 15 #[.pointer (some ⟨rb, 0, none⟩), .int .i64 (n : Int), q.val s.comp] W fun e W' => e = .returned (.tuple #[p.val s.comp, .nilIface]) ∧ ∃ sv', Cl B W' rb mb sv' (s.turned n q) ∧ sv'.ownBlock = sv.ownBlock ∧ St (Ft rb mb sv) W W' := by
  have hnl : n < s.rows.length := (List.getElem?_eq_some_iff.1 hp).1
  have hsm := h.small
  obtain ⟨g, cap, cur, hsv, hBg, hg, hLc, hcm, hcs, hfl⟩ := h.cells (by omega)
  subst hsv
  have hw0 := h.ok.w0
  have hw4 := h.ok.w4
  have H := hid h
  have HF := hid hf
  have HT := hid ht
  have BA : Hid (Below W.heap.size W ((W.alloc (.cells (q.arr s.comp) 34)).alloc (.cells #[.int .i64 0, .int .i64 0, .int .i64 0, .int .i64 0, .int .i64 0, .int .i64 0] 34))) := (bAl _ _).alloc (by simp) _
  have RW := hid (row_some (h.later BA.out) n p hp)
  have HH0 : Hid (((W.alloc (.cells (q.arr s.comp) 34)).alloc (.cells #[.int .i64 0, .int .i64 0, .int .i64 0, .int .i64 0, .int .i64 0, .int .i64 0] 34)).heap[W.heap.size + 1]? = some (.cells (Pt.zero.arr 0) 34 (0, 0))) := by
    have := heap_alloc_new (W.alloc (.cells (q.arr s.comp) 34)) (.cells #[.int .i64 0, .int .i64 0, .int .i64 0, .int .i64 0, .int .i64 0, .int .i64 0] 34)
    rw [World.size_alloc] at this
    exact this
  have PP0 : Hid (((W.alloc (.cells (q.arr s.comp) 34)).alloc (.cells #[.int .i64 0, .int .i64 0, .int .i64 0, .int .i64 0, .int .i64 0, .int .i64 0] 34)).heap[W.heap.size]? = some (.cells (q.arr s.comp) 34 (0, 0))) := by
    show _ = _
    rw [Below.heap_alloc _ _ _ (by simp)]; exact heap_alloc_new W _
  have CK := hid (fun W' (hb : Below W.heap.size W W') => check_ok (h.later hb) q hf)
  have hgW : g < W.heap.size := (h.lt g (.inr (.inr rfl))).2
  have hrW : rb < W.heap.size := (h.lt rb (.inl rfl)).2
  have hmW : mb < W.heap.size := (h.lt mb (.inr (.inl rfl))).2
  have HG := hid hg
  have HFL := hid hfl
  have hzz : ((W.alloc (.cells (q.arr s.comp) 34)).alloc (.cells #[.int .i64 0, .int .i64 0, .int .i64 0, .int .i64 0, .int .i64 0, .int .i64 0] 34)).heap.size = W.heap.size + 2 := by simp
  clear h hp hg hfl hf ht
  unfold Pt.val at RW CK ⊢
  unfold Pt.arr at BA RW HH0 PP0 hzz
  have HZZ := hid hzz
  clear hzz
  go_enter Tryd.func15, Tryd.ntmps15
  go_wp2_with fail
  refine RW.out.mono ?_
  rintro e w1 ⟨rfl, hb⟩
  have hz1 : W.heap.size + 2 ≤ w1.heap.size := by have := hb.size; rw [HZZ.out] at this; omega
  have B1 := hid (BA.out.trans (hb.mono BA.out.size))
  have R1 := hid (blk_seen hb (Nat.le_refl _) HH0.out)
  have P1 := hid (blk_seen hb (Nat.le_refl _) PP0.out)
  obtain ⟨w2, hw2⟩ : ∃ w2, w2 = w1.alloc (.cells #[.int .i64 s.comp, .int .i64 p.a, .int .i64 p.b, .int .i64 p.c, .int .i64 p.d, .int .i64 p.t] 34) := ⟨_, rfl⟩
  have b12 : Below w1.heap.size w1 w2 := by rw [hw2]; exact bAl _ _
  have B2 := hid (B1.out.trans (b12.mono B1.out.size))
  have R2 := hid (blk_seen b12 (Nat.le_refl _) R1.out)
  have P2 := hid (blk_seen b12 (Nat.le_refl _) P1.out)
  have O2 : Hid (w2.heap[w1.heap.size]? = some (.cells (p.arr s.comp) 34 (0, 0))) := by rw [hw2]; exact heap_alloc_new w1 _
  have HW2 := hid hw2
  have k0 := cell_blk P1.out (j := 0) rfl
  have k1 := cell_blk P1.out (j := 1) rfl
  have k2 := cell_blk P1.out (j := 2) rfl
  have k3 := cell_blk P1.out (j := 3) rfl
  have k4 := cell_blk P1.out (j := 4) rfl
  have k5 := cell_blk P1.out (j := 5) rfl
  have hl := World.block_lt_of_cell? w1 _ k0
  have hne := World.new_ne w1 _ k0
  clear hb RW HH0 PP0 b12 hw2
  go_wp2_with fail
  rw [← HW2.out]
  refine (CK.out _ B2.out).mono ?_
  rintro e w3 ⟨rfl, hb3⟩
  have B3 := hid (B2.out.trans (hb3.mono B2.out.size))
  have R3 := hid (blk_seen hb3 (Nat.le_refl _) R2.out)
  have P3 := hid (blk_seen hb3 (Nat.le_refl _) P2.out)
  have O3 := hid (blk_seen hb3 (Nat.le_refl _) O2.out)
  have C3 := hid (H.out.later B3.out)
  have G3 := hid (blk_seen B3.out (Nat.le_refl _) HG.out)
  clear hb3 CK k0 k1 k2 k3 k4 k5 hl hne
  have hnw : n * s.w + s.w ≤ s.rows.length * s.w := by rw [← Nat.succ_mul]; exact Nat.mul_le_mul_right _ hnl
  have hL4 : s.rows.length * s.w ≤ 4000 := by have := Nat.mul_le_mul hsm hw4; omega
  have CR := hid (fun m => crow_any (W := w3.drewN m) (seen (drewN_below w3 m) (Nat.le_refl _) C3.out.c1) (seen (drewN_below w3 m) (Nat.le_refl _) C3.out.c2) (n := n) rfl hnw hLc hL4 hw0 hw4 (by omega))
  obtain ⟨cur', hcur'⟩ : ∃ cur', cur' = (cur.toList.take (n * s.w) ++ q.row s.w ++ cur.toList.drop (n * s.w + (q.row s.w).length)).toArray := ⟨_, rfl⟩
  have CP : ∀ m ty, (Builtin.copy_ #[55, 55] ty #[.slice (some ⟨g, n * s.w, none⟩) s.w (cap - n * s.w), .slice (some ⟨W.heap.size, 1, none⟩) 4 4]).run Tryd.prog (w3.drewN m) = .ok (.int .i64 (s.w : Int)) ((w3.drewN m).setRow g cur') := by
    intro m ty
    rw [hcur']
    have hh := run_copy_row (P := Tryd.prog) (w3.drewN m) 55 55 ty 3 g (n * s.w) s.w (cap - n * s.w) ⟨W.heap.size, 1, none⟩ 4 4 cur 3 (q.row s.w) Tryd.underlying55 infoInt G3.out (by rw [q.row_len hw4]; exact (Nat.min_eq_right hw4).symm) (row_src (W := w3.drewN m) P3.out s.w) (by rw [q.row_len hw4]; omega) (row_one _ _)
    rw [hh, q.row_len hw4]
    rfl
  have HCU := hid hcur'
  clear hcur'
  go_wp2_with fail
  go_region_held3 (fun _ => True) (exact trivial)
    ((go_at_call 32; refine (CR.out 1).mono ?_; rintro e w8 ⟨rfl, m, rfl⟩; rw [World.drewN_drewN]))
  obtain ⟨w4, hw4'⟩ : ∃ w4, w4 = (w3.drewN (1 + m)).setRow g cur' := ⟨_, rfl⟩
  rw [← hw4']
  have ngr : g ≠ rb := (C3.out.ne_f g rfl).1
  have ngm : g ≠ mb := (C3.out.ne_f g rfl).2
  have nrm : rb ≠ mb := C3.out.ne_rm
  have s34 : St (fun k => k = g) w3 w4 := by rw [hw4']; exact (drewN_st (fun k => k = g) w3 _).trans (setRow_st _ g _) fun _ _ q => q
  have G4 : Hid (w4.heap[g]? = some (.cells cur' 3 (0, 0))) := by rw [hw4']; exact setRow_heap (w3.drewN (1 + m)) g cur _ 3 _ G3.out
  have X4 := hid (s34.at C3.out.box (fun e => ngr e.symm))
  have R4 := hid (s34.at R3.out (by omega))
  have P4 := hid (s34.at P3.out (by omega))
  have O4 := hid (s34.at O3.out (by omega))
  obtain ⟨D, hD, hH⟩ := C3.out.map
  have hD4 := s34.map hD (fun e => ngm e.symm)
  have hIn : I64 (n : Int) := I64_mid (by omega) (by omega)
  obtain ⟨w5, hmu, hD5, ht5⟩ := hD4.drew.store keyed3 Tryd.underlying66 (by unfold maxLen; omega) (key_int (n : Int) hIn) (plainElem_int Tryd.underlying3 HT.out)
  have hH5 := hH.set (hD.tidy keyed3) hnl q hIn
  have s45 := map_st ht5
  have X5 := hid (s45.at X4.out nrm)
  have G5 := hid (s45.at G4.out ngm)
  have hz2 : w1.heap.size < w3.heap.size := (Array.getElem?_eq_some_iff.1 O3.out).1
  have R5 := hid (s45.at R4.out (by omega))
  have P5 := hid (s45.at P4.out (by omega))
  have O5 := hid (s45.at O4.out (by omega))
  have S35 : Hid (St (Ft rb mb (.slice (some ⟨g, 0, none⟩) (s.rows.length * s.w) cap)) w3 w5) := (St.trans (S := Ft rb mb (.slice (some ⟨g, 0, none⟩) (s.rows.length * s.w) cap)) ⟨s34.os, s34.tape, s34.output, s34.size, fun k hk hn => s34.block k hk fun e => hn (.inr (.inr (by rw [e]; rfl)))⟩ s45 fun _ _ q => .inr (.inl q))
  have HD5 := hid hD5
  have HH5 := hid hH5
  have K4 : Hid (w4.drew.cell? ⟨rb, 3, none⟩ = some (.map (some mb)) ∧ w4.drew.cell? ⟨W.heap.size, 5, none⟩ = some (.int .i64 q.t)) := ⟨cell_blk (W := w4) X4.out rfl, cell_blk (W := w4) P4.out rfl⟩
  have K5 : Hid (w5.cell? ⟨rb, 3, none⟩ = some (.map (some mb)) ∧ w5.cell? ⟨W.heap.size, 5, none⟩ = some (.int .i64 q.t)) := ⟨cell_blk X5.out rfl, cell_blk P5.out rfl⟩
  clear hD hH hD4 hD5 hH5 ht5 s34 s45 hw4' CR CP
  go_wp2_with fail
  go_region_held3 (fun W' => W'.cell? ⟨rb, 3, none⟩ = some (.map (some mb)) ∧ W'.cell? ⟨W.heap.size, 5, none⟩ = some (.int .i64 q.t)) (first | exact K4.out | exact K5.out) (fail)
  clear hmu K4 K5
  obtain ⟨d0, d1, d2, d3, d4, d5, -, -, -, -, -, -⟩ := lies O5.out
  obtain ⟨x0, x1, x2, x3, x4, x5, f0, f1, f2, f3, f4, f5⟩ := lies R5.out
  go_wp2_with fail
  have PB := put6_blk R5.out rfl s.comp p
  have PS := put6_st w5 (W.heap.size + 1) s.comp p
  unfold put6 at PB PS
  obtain ⟨d0, d1, d2, d3, d4, d5, -, -, -, -, -, -⟩ := lies PB
  generalize (((((w5.setCell ⟨W.heap.size + 1, 0, none⟩ (.int .i64 s.comp)).setCell ⟨W.heap.size + 1, 1, none⟩ (.int .i64 p.a)).setCell ⟨W.heap.size + 1, 2, none⟩ (.int .i64 p.b)).setCell ⟨W.heap.size + 1, 3, none⟩ (.int .i64 p.c)).setCell ⟨W.heap.size + 1, 4, none⟩ (.int .i64 p.d)).setCell ⟨W.heap.size + 1, 5, none⟩ (.int .i64 p.t) = w8 at *
  have X8 := PS.at X5.out (by omega)
  have G8 := PS.at G5.out (by omega)
  have D8 := PS.map HD5.out (by omega)
  have FN := H.out.written n q HF.out HT.out hLc hcm (by rw [HCU.out]; simp [q.row_len hw4]; omega) (by
    rw [HCU.out, List.toList_toArray, q.row_len hw4]
    exact splice_take hw4 HFL.out (by simp; omega) hnl q) hBg X8 G8 _ D8 HH5.out
  have SF : St (Ft rb mb (.slice (some ⟨g, 0, none⟩) (s.rows.length * s.w) cap)) W w8 := ((St.of_below B3.out).trans S35.out fun _ _ q => q).trans PS fun k hk q => by omega
  exact bodyPost_ret (v := .tuple #[.agg #[.int .i64 s.comp, .int .i64 p.a, .int .i64 p.b, .int .i64 p.c, .int .i64 p.d, .int .i64 p.t], .nilIface]) (by simp [results, Tryd.results15, go_sem, d0, d1, d2, d3, d4, d5]) rfl ⟨rfl, _, FN, rfl, SF⟩
end Go.Proofs.YtpglanlpnapddaaDoor
