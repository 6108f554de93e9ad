/- The document's Set. -/
import Derived.Test.YtpglanlpnapddaaDoorEf
namespace Go.Proofs.YtpglanlpnapddaaDoor
open Go.RowKit Go.Shelf Go.Maps
theorem Pt.fit_put {w : Nat} (p : Pt) (h : w ≤ 4) {j : Nat} (hj : j < w) (x f : Int) (hf : p.fitB w = true) : (p.put j x f).fitB w = true := (p.put_fit h hj x f).trans hf
theorem arr_put (p : Pt) (cm : Int) (j : Nat) (hj : j < 4) (x f : Int) : ((p.arr cm).setIfInBounds (1 + j) (.int .i64 x)).setIfInBounds 5 (.int .i64 f) = (p.put j x f).arr cm := by
  have hj' : j = 0 ∨ j = 1 ∨ j = 2 ∨ j = 3 := by omega
  rcases hj' with rfl | rfl | rfl | rfl <;> rfl
theorem put_blk {W : World} {b : Nat} {cm : Int} {p : Pt} (h : W.heap[b]? = some (.cells (p.arr cm) 34 (0, 0))) (j : Nat) (hj : j < 4) (x f : Int) : ((W.setCell ⟨b, 1 + j, none⟩ (.int .i64 x)).setCell ⟨b, 5, none⟩ (.int .i64 f)).heap[b]? = some (.cells ((p.put j x f).arr cm) 34 (0, 0)) := by
  have h1 := heap_setCell_same W b (1 + j) _ 34 (.int .i64 x) h
  have h2 := heap_setCell_same _ b 5 _ 34 (.int .i64 f) h1
  rw [h2, arr_put p cm j hj x f]
set_option maxHeartbeats 3200000 in
set_option maxRecDepth 100000 in
theorem rset_ok {B : Nat} {W : World} {ub : Nat} {lv : Value} {s : CS} (h : Rc B W ub lv s) (n : Nat) (p : Pt) (hp : s.rows[n]? = some p) (hf : p.fitB s.w = true) (j : Nat) (hj : j < s.w) (value frame : Int) :
    Calls Tryd.prog 14 #[.pointer (some ⟨ub, 0, none⟩), .int .i64 (n : Int), .int .i64 (j : Int), .int .i64 value, .int .i64 frame] W fun e W' => e = .returned (.tuple #[p.val s.comp, .int .i64 0]) ∧ ∃ lv', Rc B W' ub lv' (s.turned n (p.put j value frame)) ∧ St (Fu ub lv) W W' ∧ ∀ x, lv'.ownBlock = some x → W.heap.size ≤ x := by
  have hnl : n < s.rows.length := (List.getElem?_eq_some_iff.1 hp).1
  have hsm := h.small
  obtain ⟨la, lc, rfl⟩ := h.row.slice
  obtain ⟨lg, rfl⟩ := h.row.some (by omega)
  have BA : Hid (Below W.heap.size W (W.alloc (.cells #[.int .i64 0, .int .i64 0, .int .i64 0, .int .i64 0, .int .i64 0, .int .i64 0] 34))) := bAl _ _
  have HA := hid (rhas_any (h.later BA.out) (n : Int))
  rw [rowAt_nat, hp] at HA
  have R3 : Hid ((W.alloc (.cells #[.int .i64 0, .int .i64 0, .int .i64 0, .int .i64 0, .int .i64 0, .int .i64 0] 34)).heap[W.heap.size]? = some (.cells (Pt.zero.arr 0) 34 (0, 0))) := heap_alloc_new W _
  have H := hid h
  have HP := hid hp
  have HF := hid (Pt.fit_put p h.w4 hj value frame hf)
  have hul : ub < W.heap.size := (h.lt ub (.inl rfl)).2
  have hlg : lg < W.heap.size := (h.lt lg (.inr rfl)).2
  have hni : (n : Int) < (s.rows.length : Int) := by omega
  have hri : (s.rows.length : Int) ≤ 1000 := by omega
  have hj4 : j < 4 := by have := h.w4; omega
  have hji : (j : Int) < (s.w : Int) := by omega
  clear h hp hf
  unfold Pt.val
  go_enter Tryd.func14, Tryd.ntmps14
  go_wp2_with fail
  refine HA.out.mono ?_
  rintro e w3 ⟨rfl, hw3⟩
  rw [← hw3] at R3 BA
  clear HA
  have B3 := BA
  have H3 := hid (H.out.later B3.out)
  have hz3 : W.heap.size < w3.heap.size := (Array.getElem?_eq_some_iff.1 R3.out).1
  have c2 := H3.out.c2
  have c1 := H3.out.c1
  obtain ⟨q0, q1, q2, q3, q4, q5⟩ := H3.out.row.cell HP.out
  obtain ⟨w4, hw4⟩ : ∃ w4, w4 = w3.alloc (.cells #[.int .i64 s.comp, .int .i64 p.a, .int .i64 p.b, .int .i64 p.c, .int .i64 p.d, .int .i64 p.t] 34) := ⟨_, rfl⟩
  have b34 : Below w3.heap.size w3 w4 := by rw [hw4]; exact bAl _ _
  have O4 : Hid (w4.heap[w3.heap.size]? = some (.cells (p.arr s.comp) 34 (0, 0))) := by rw [hw4]; exact heap_alloc_new w3 _
  have HW4 := hid hw4
  clear hw3 BA hw4
  go_upto_region 6 with fail
  rw [← HW4.out]
  obtain ⟨d0, d1, d2, d3, d4, d5, f0, f1, f2, f3, f4, f5⟩ := lies O4.out
  have H4 := hid (H3.out.later b34)
  have R4 := hid (blk_seen b34 (Nat.le_refl _) R3.out)
  have B4 := hid (B3.out.trans (b34.mono B3.out.size))
  have hz4 : w3.heap.size < w4.heap.size := (Array.getElem?_eq_some_iff.1 O4.out).1
  obtain ⟨w5, hw5⟩ : ∃ w5, w5 = (w4.setCell ⟨w3.heap.size, 1 + j, none⟩ (.int .i64 value)).setCell ⟨w3.heap.size, 5, none⟩ (.int .i64 frame) := ⟨_, rfl⟩
  have s45 : St (fun k => k = w3.heap.size) w4 w5 := by
    rw [hw5]; exact (St.setCell (S := fun k => k = w3.heap.size) (p := ⟨w3.heap.size, 1 + j, none⟩) _ rfl).trans (St.setCell (S := fun k => k = w3.heap.size) (p := ⟨w3.heap.size, 5, none⟩) _ rfl) fun _ _ h => h
  have H5 := hid (H4.out.kept s45 fun k hk e => by
    rcases hk with rfl | hk
    · omega
    · have : lg = k := by simpa [Value.ownBlock] using hk
      omega)
  have R5 := hid (s45.at R4.out (by omega))
  have PU := hid (rput_ok H5.out n p HP.out (p.put j value frame) HF.out)
  have S35 : Hid (St (Fu ub (.slice (some ⟨lg, 0, none⟩) s.rows.length lc)) W w5) := (St.of_below B4.out).trans s45 fun k hk e => by omega
  have HW5 := hid hw5
  have O5 : Hid (w5.heap[w3.heap.size]? = some (.cells ((p.put j value frame).arr s.comp) 34 (0, 0))) := by rw [hw5]; exact put_blk O4.out j hj4 value frame
  have hg5 : w3.heap.size < w5.heap.size := Nat.lt_of_lt_of_le hz4 s45.size
  unfold Pt.val at PU
  clear s45 hw5 b34 c1 c2 q0 q1 q2 q3 q4 q5 hji
  have hj' : j = 0 ∨ j = 1 ∨ j = 2 ∨ j = 3 := by omega
  rcases hj' with rfl | rfl | rfl | rfl
  all_goals
    simp only [Pt.put] at PU
    simp only [Nat.reduceAdd] at HW5
    go_upto_region 8 with fail
    rw [← HW5.out]
    obtain ⟨z0, z1, z2, z3, z4, z5, -, -, -, -, -, -⟩ := lies O5.out
    simp only [Pt.put] at z0 z1 z2 z3 z4 z5
    clear d0 d1 d2 d3 d4 d5 f0 f1 f2 f3 f4 f5
    go_wp2_with fail
    refine PU.out.mono ?_
    rintro e w6 ⟨rfl, lv', RC6, S56, X6⟩
    have HRC := hid RC6
    have HS := hid S56
    have HX := hid X6
    have R6 := hid (S56.at R5.out (fun e => e.elim (fun e => by omega) (fun e => by have e' : lg = W.heap.size := by simpa [Value.ownBlock] using e
                                                                                    omega)))
    obtain ⟨x0, x1, x2, x3, x4, x5, y0, y1, y2, y3, y4, y5⟩ := lies R6.out
    clear RC6 S56 X6 PU z0 z1 z2 z3 z4 z5
    go_wp2_with fail
    have PB := put6_blk R6.out rfl s.comp p
    have PS := put6_st w6 W.heap.size s.comp p
    unfold put6 at PB PS
    obtain ⟨d0, d1, d2, d3, d4, d5, -, -, -, -, -, -⟩ := lies PB
    generalize (((((w6.setCell ⟨W.heap.size, 0, none⟩ (.int .i64 s.comp)).setCell ⟨W.heap.size, 1, none⟩ (.int .i64 p.a)).setCell ⟨W.heap.size, 2, none⟩ (.int .i64 p.b)).setCell ⟨W.heap.size, 3, none⟩ (.int .i64 p.c)).setCell ⟨W.heap.size, 4, none⟩ (.int .i64 p.d)).setCell ⟨W.heap.size, 5, none⟩ (.int .i64 p.t) = w8 at *
    have FN := HRC.out.kept PS fun k hk e => by
      rcases hk with rfl | hk
      · omega
      · have := HX.out k hk
        omega
    have SF : St (Fu ub (.slice (some ⟨lg, 0, none⟩) s.rows.length lc)) W w8 := (S35.out.trans HS.out fun _ _ q => q).trans PS fun k hk e => by omega
    exact bodyPost_ret (v := .tuple #[.agg #[.int .i64 s.comp, .int .i64 p.a, .int .i64 p.b, .int .i64 p.c, .int .i64 p.d, .int .i64 p.t], .int .i64 0]) (by simp [results, Tryd.results14, go_sem, d0, d1, d2, d3, d4, d5]) rfl ⟨rfl, _, FN, SF, fun x hx => by have := HX.out x hx; omega⟩
end Go.Proofs.YtpglanlpnapddaaDoor
