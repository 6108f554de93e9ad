/- Set, of a cell that there is. -/
import Derived.Test.YtpglanlpnapddaaDoorCm
namespace Go.Proofs.YtpglanlpnapddaaDoor
open Go.RowKit Go.Shelf Go.Maps
/-- A row is another one. -/
def CS.turned (s : CS) (n : Nat) (p : Pt) : CS := ⟨s.comp, s.w, s.rows.set n p⟩
/-- What is there once a row's cells and its frame are written. -/
theorem Cl.written {B : Nat} {W W' : World} {rb mb g cap : Nat} {cur' : Array Value} {s : CS} (h : Cl B W rb mb (.slice (some ⟨g, 0, none⟩) (s.rows.length * s.w) cap) s) (n : Nat) (p : Pt) (hf : p.fitB s.w = true) (ht : I64 p.t)
    (hcl : s.rows.length * s.w ≤ cap) (hcm : cap ≤ maxLen) (hcs : cur'.size = cap) (hfl : cur'.toList.take (s.rows.length * s.w) = flat s.w (s.rows.set n p)) (hBg : B ≤ g)
    (hbox : W'.heap[rb]? = some (.cells #[.int .i64 s.comp, .int .i64 (s.w : Int), .slice (some ⟨g, 0, none⟩) (s.rows.length * s.w) cap, .map (some mb)] 68 (0, 0)))
    (hg : W'.heap[g]? = some (.cells cur' 3 (0, 0)))
    (D : DataW Unit) (hD : W'.ownsMap Tryd.prog 3 (plainElem Tryd.prog 3) mb (s.rows.length + 1) D) (hH : Holds D (s.rows.set n p)) :
    Cl B W' rb mb (.slice (some ⟨g, 0, none⟩) (s.rows.length * s.w) cap) (s.turned n p) := by
  have hw4 := h.ok.w4
  have hl : (s.rows.set n p).length = s.rows.length := by simp
  refine ⟨hbox, ?_, ⟨D, own_size hD hH.2, hH⟩, ⟨h.ok.w0, hw4, ?_⟩, ?_, h.low⟩
  · show World.ownsRow _ _ _ _ _ ((s.rows.set n p).length * s.w) (flat s.w (s.rows.set n p))
    rw [hl]
    exact ⟨by rw [flat_len hw4, hl]; omega, .inr ⟨g, cap, cur', rfl, hBg, hg, hcl, hcm, by omega, by rw [Nat.mul_one]; exact hfl⟩⟩
  · intro q hq
    rcases List.mem_or_eq_of_mem_set hq with h1 | h1
    · exact h.ok.fit q h1
    · subst h1; exact ⟨hf, ht⟩
  · show (s.rows.set n p).length ≤ 1000
    rw [hl]; exact h.small
set_option maxHeartbeats 3200000 in
set_option maxRecDepth 100000 in
theorem set_ok {B : Nat} {W : World} {rb mb : Nat} {sv : Value} {s : CS} (h : Cl B W rb mb sv s) (n : Nat) (p : Pt) (hp : s.rows[n]? = some p) (j : Nat) (hj : j < s.w) (value frame : Int) (hfr : I64 frame) :
    Calls Tryd.prog 13 #[.pointer (some ⟨rb, 0, none⟩), .int .i64 (n : Int), .int .i64 (j : Int), .int .i64 value, .int .i64 frame] W fun e W' => e = .returned (.tuple #[p.val s.comp, .nilIface]) ∧ ∃ sv', Cl B W' rb mb sv' (s.turned n (p.put j value frame)) ∧ sv'.ownBlock = sv.ownBlock ∧ St (Ft rb mb sv) W W' := by
  have hnl : n < s.rows.length := (List.getElem?_eq_some_iff.1 hp).1
  have hsm := h.small
  obtain ⟨g, cap, cur, hsv, hBg, hg, hLc, hcm, hcs, hfl⟩ := h.cells (by omega)
  subst hsv
  have hw0 := h.ok.w0
  have hw4 := h.ok.w4
  have H := hid h
  have HP := hid hp
  have BA : Hid (Below W.heap.size W (W.alloc (.cells #[.int .i64 0, .int .i64 0, .int .i64 0, .int .i64 0, .int .i64 0, .int .i64 0] 34))) := bAl _ _
  have RW := hid (row_some (h.later BA.out) n p hp)
  have hgW : g < W.heap.size := (h.lt g (.inr (.inr rfl))).2
  have hrW : rb < W.heap.size := (h.lt rb (.inl rfl)).2
  have hmW : mb < W.heap.size := (h.lt mb (.inr (.inl rfl))).2
  have HG := hid hg
  have HFL := hid hfl
  have HFR := hid hfr
  have hji : (j : Int) < (s.w : Int) := by omega
  have hj0 : ¬ ((j : Int) < 0) := by omega
  have hjw : ¬ ((s.w : Int) ≤ (j : Int)) := by omega
  have hwi : (s.w : Int) ≤ 4 := by omega
  unfold Pt.val at RW ⊢
  clear h hp hg hfl hfr
  go_enter Tryd.func13, Tryd.ntmps13
  go_wp2_with fail
  refine RW.out.mono ?_
  rintro e w1 ⟨rfl, hb⟩
  have R1 : Hid (w1.heap[W.heap.size]? = some (.cells (Pt.zero.arr 0) 34 (0, 0))) := blk_seen hb (Nat.le_refl _) (heap_alloc_new W (.cells #[.int .i64 0, .int .i64 0, .int .i64 0, .int .i64 0, .int .i64 0, .int .i64 0] 34))
  have B1 := hid (BA.out.trans (hb.mono BA.out.size))
  have hz1 : W.heap.size < w1.heap.size := by have := hb.size; simp at this; omega
  clear hb RW
  obtain ⟨w2, hw2⟩ : ∃ w2, w2 = w1.alloc (.cells #[.int .i64 s.comp, .int .i64 p.a, .int .i64 p.b, .int .i64 p.c, .int .i64 p.d, .int .i64 p.t] 34) := ⟨_, rfl⟩
  have b12 : Below w1.heap.size w1 w2 := by rw [hw2]; exact bAl _ _
  have B2 := hid (B1.out.trans (b12.mono B1.out.size))
  have R2 := hid (blk_seen b12 (Nat.le_refl _) R1.out)
  have O2 : Hid (w2.heap[w1.heap.size]? = some (.cells (p.arr s.comp) 34 (0, 0))) := by rw [hw2]; exact heap_alloc_new w1 _
  have C2 := hid (H.out.later B2.out)
  have G2 := hid (blk_seen B2.out (Nat.le_refl _) HG.out)
  have HW2 := hid hw2
  have c1 := (H.out.later B1.out).c1
  have hrl := World.block_lt_of_cell? w1 _ c1
  have hrn := World.new_ne w1 _ c1
  have hnw : n * s.w + s.w ≤ s.rows.length * s.w := by rw [← Nat.succ_mul]; exact Nat.mul_le_mul_right _ hnl
  have hL4 : s.rows.length * s.w ≤ 4000 := by have := Nat.mul_le_mul hsm hw4; omega
  have CR := hid (crow_any (W := w2) C2.out.c1 C2.out.c2 (n := n) rfl hnw hLc hL4 hw0 hw4 (by omega))
  clear b12 hw2
  go_wp2_with fail
  rw [← HW2.out]
  refine CR.out.mono ?_
  rintro e w3 ⟨rfl, m, rfl⟩
  obtain ⟨o, ho⟩ : ∃ o, n * s.w = o := ⟨_, rfl⟩
  rw [ho] at hnw
  have hos : o + j < cur.size := by omega
  have cc : (w2.drewN m).cell? ⟨g, o + j, none⟩ = some cur[o + j] := cell_blk (W := w2.drewN m) G2.out (Array.getElem?_eq_getElem hos)
  have cf : (w2.drewN m).frozen? ⟨g, o + j, none⟩ = false := blk_free (W := w2.drewN m) G2.out (o + j)
  rw [ho]
  have HO := hid ho
  clear ho c1 hrl hrn CR
  generalize hcv : cur[o + j] = cv at cc
  clear hcv
  obtain ⟨w4, hw4'⟩ : ∃ w4, w4 = (w2.drewN m).setCell ⟨g, o + j, none⟩ (.int .i64 value) := ⟨_, rfl⟩
  have ngr : g ≠ rb := (C2.out.ne_f g rfl).1
  have ngm : g ≠ mb := (C2.out.ne_f g rfl).2
  have nrm : rb ≠ mb := C2.out.ne_rm
  have s24 : St (fun k => k = g) w2 w4 := by rw [hw4']; exact (drewN_st (fun k => k = g) w2 _).trans (St.setCell (S := fun k => k = g) (p := ⟨g, o + j, none⟩) _ rfl) fun _ _ q => q
  have G4 : Hid (w4.heap[g]? = some (.cells (cur.setIfInBounds (o + j) (.int .i64 value)) 3 (0, 0))) := by rw [hw4']; exact heap_setCell_same (w2.drewN m) g (o + j) cur 3 _ G2.out
  have X4 := hid (s24.at C2.out.box (fun e => ngr e.symm))
  have R4 := hid (s24.at R2.out (by omega))
  have O4 := hid (s24.at O2.out (by omega))
  obtain ⟨D, hD, hH⟩ := C2.out.map
  have hD4 := s24.map hD (fun e => ngm e.symm)
  have hIn : I64 (n : Int) := I64_mid (by omega) (by omega)
  obtain ⟨w5, hmu, hD5, ht5⟩ := hD4.store keyed3 Tryd.underlying66 (by unfold maxLen; omega) (key_int (n : Int) hIn) (plainElem_int Tryd.underlying3 HFR.out)
  have hH5 := hH.set (hD.tidy keyed3) hnl (p.put j value frame) hIn
  rw [Pt.put_t] at hH5
  have s45 := map_st' ht5
  have X5 := hid (s45.at X4.out nrm)
  have G5 := hid (s45.at G4.out ngm)
  have hz2 : w1.heap.size < w2.heap.size := (Array.getElem?_eq_some_iff.1 O2.out).1
  have R5 := hid (s45.at R4.out (by omega))
  have O5 := hid (s45.at O4.out (by omega))
  have S25 : Hid (St (Ft rb mb (.slice (some ⟨g, 0, none⟩) (s.rows.length * s.w) cap)) w2 w5) := (St.trans (S := Ft rb mb (.slice (some ⟨g, 0, none⟩) (s.rows.length * s.w) cap)) ⟨s24.os, s24.tape, s24.output, s24.size, fun k hk hn => s24.block k hk fun e => hn (.inr (.inr (by rw [e]; rfl)))⟩ s45 fun _ _ q => .inr (.inl q))
  have HD5 := hid hD5
  have HH5 := hid hH5
  have k3 := cell_blk X4.out (j := 3) rfl
  have HW4 := hid hw4'
  rw [hw4'] at k3 hmu
  have lg : g < w2.heap.size := by have := B2.out.size; omega
  have lr : rb < w2.heap.size := by have := B2.out.size; omega
  obtain ⟨d0, d1, d2, d3, d4, d5, -, -, -, -, -, -⟩ := lies O5.out
  obtain ⟨x0, x1, x2, x3, x4, x5, f0, f1, f2, f3, f4, f5⟩ := lies R5.out
  clear hD hH hD4 hD5 hH5 ht5 s24 s45 hw4'
  go_wp2_with fail
  have PB := put6_blk R5.out rfl s.comp p
  have PS := put6_st w5 W.heap.size s.comp p
  unfold put6 at PB PS
  obtain ⟨d0, d1, d2, d3, d4, d5, -, -, -, -, -, -⟩ := lies PB
  generalize (((((w5.setCell ⟨W.heap.size, 0, none⟩ (.int .i64 s.comp)).setCell ⟨W.heap.size, 1, none⟩ (.int .i64 p.a)).setCell ⟨W.heap.size, 2, none⟩ (.int .i64 p.b)).setCell ⟨W.heap.size, 3, none⟩ (.int .i64 p.c)).setCell ⟨W.heap.size, 4, none⟩ (.int .i64 p.d)).setCell ⟨W.heap.size, 5, none⟩ (.int .i64 p.t) = w8 at *
  have X8 := PS.at X5.out (by omega)
  have G8 := PS.at G5.out (by omega)
  have D8 := PS.map HD5.out (by omega)
  have hfit := H.out.ok.fit p (List.mem_of_getElem? HP.out)
  have FN := H.out.written n (p.put j value frame) (by rw [Pt.put_fit p hw4 hj]; exact hfit.1) (by rw [Pt.put_t]; exact HFR.out) hLc hcm (by simp; exact hcs) (by
    rw [Array.toList_setIfInBounds, ← HO.out]
    exact set_take hw4 HFL.out HP.out hj value frame) hBg X8 G8 _ D8 HH5.out
  have SF : St (Ft rb mb (.slice (some ⟨g, 0, none⟩) (s.rows.length * s.w) cap)) W w8 := ((St.of_below B2.out).trans S25.out fun _ _ q => q).trans PS fun k hk q => by omega
  exact bodyPost_ret (v := .tuple #[.agg #[.int .i64 s.comp, .int .i64 p.a, .int .i64 p.b, .int .i64 p.c, .int .i64 p.d, .int .i64 p.t], .nilIface]) (by simp [results, Tryd.results13, go_sem, d0, d1, d2, d3, d4, d5]) rfl ⟨rfl, _, FN, rfl, SF⟩
end Go.Proofs.YtpglanlpnapddaaDoor
