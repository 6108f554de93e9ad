/- The document's Put: what goes wrong. -/
import Derived.Test.YtpglanlpnapddaaDoorEb
namespace Go.Proofs.YtpglanlpnapddaaDoor
open Go.RowKit Go.Shelf Go.Maps
set_option maxHeartbeats 800000 in
set_option maxRecDepth 100000 in
theorem rput_none {B : Nat} {W : World} {ub : Nat} {lv : Value} {s : CS} (h : Rc B W ub lv s) (i cm : Int) (p : Pt) (hr : rowAt s.rows i = none) :
    Calls Tryd.prog 16 #[.pointer (some ⟨ub, 0, none⟩), .int .i64 i, p.val cm] W fun e W' => e = .returned (.tuple #[.agg #[.int .i64 0, .int .i64 0, .int .i64 0, .int .i64 0, .int .i64 0, .int .i64 0], .int .i64 7]) ∧ Below W.heap.size W W' := by
  have BA : Hid (Below W.heap.size W ((W.alloc (.cells (p.arr cm) 34)).alloc (.cells #[.int .i64 0, .int .i64 0, .int .i64 0, .int .i64 0, .int .i64 0, .int .i64 0] 34))) := (bAl _ _).alloc (by simp) _
  have HA := hid (rhas_any (h.later BA.out) i)
  rw [hr] at HA
  clear h hr
  unfold Pt.val
  unfold Pt.arr at HA BA
  go_enter Tryd.func16, Tryd.ntmps16
  go_wp2_with fail
  refine HA.out.mono ?_
  rintro e w1 ⟨rfl, rfl⟩
  clear HA
  go_wp2_with fail
  exact bodyPost_ret (v := .tuple #[.agg #[.int .i64 0, .int .i64 0, .int .i64 0, .int .i64 0, .int .i64 0, .int .i64 0], .int .i64 7]) (by simp [results, Tryd.results16, go_sem]) rfl ⟨rfl, BA.out⟩
set_option maxHeartbeats 800000 in
set_option maxRecDepth 100000 in
theorem rput_bad {B : Nat} {W : World} {ub : Nat} {lv : Value} {s : CS} (h : Rc B W ub lv s) (n : Nat) (hn : n < s.rows.length) (cm : Int) (p : Pt) (hc : ((cm == s.comp) && p.fitB s.w) = false) :
    Calls Tryd.prog 16 #[.pointer (some ⟨ub, 0, none⟩), .int .i64 (n : Int), p.val cm] W fun e W' => e = .returned (.tuple #[.agg #[.int .i64 0, .int .i64 0, .int .i64 0, .int .i64 0, .int .i64 0, .int .i64 0], .int .i64 1]) ∧ Below W.heap.size W W' := by
  have BA : Hid (Below W.heap.size W ((W.alloc (.cells (p.arr cm) 34)).alloc (.cells #[.int .i64 0, .int .i64 0, .int .i64 0, .int .i64 0, .int .i64 0, .int .i64 0] 34))) := (bAl _ _).alloc (by simp) _
  have HA := hid (rhas_any (h.later BA.out) (n : Int))
  obtain ⟨qn, hqn⟩ := at_lt s.rows n hn
  rw [rowAt_nat, hqn] at HA
  clear hqn
  have FI := hid (fits_any (h.later BA.out) cm p)
  rw [hc] at FI
  have HH0 : Hid (((W.alloc (.cells (p.arr cm) 34)).alloc (.cells #[.int .i64 0, .int .i64 0, .int .i64 0, .int .i64 0, .int .i64 0, .int .i64 0] 34)).heap[W.heap.size + 1]? = some (.cells (Pt.zero.arr 0) 34 (0, 0))) := by
    have := heap_alloc_new (W.alloc (.cells (p.arr cm) 34)) (.cells #[.int .i64 0, .int .i64 0, .int .i64 0, .int .i64 0, .int .i64 0, .int .i64 0] 34)
    rw [World.size_alloc] at this
    exact this
  clear h hc hn
  unfold Pt.val at FI ⊢
  unfold Pt.arr at HA FI BA HH0
  go_enter Tryd.func16, Tryd.ntmps16
  go_wp2_with fail
  refine HA.out.mono ?_
  rintro e w1 ⟨rfl, rfl⟩
  clear HA
  go_wp2_with fail
  refine FI.out.mono ?_
  rintro e w1 ⟨rfl, hb⟩
  have HB := hid (BA.out.trans (hb.mono BA.out.size))
  have HH := hid (blk_seen hb (Nat.le_refl _) HH0.out)
  obtain ⟨d0, d1, d2, d3, d4, d5, f0, f1, f2, f3, f4, f5⟩ := lies HH.out
  unfold Pt.zero at d1 d2 d3 d4 d5
  clear hb FI HH0
  go_wp2_with fail
  have PS := put6_same HH.out
  unfold put6 Pt.zero at PS
  rw [PS]
  exact bodyPost_ret (v := .tuple #[.agg #[.int .i64 0, .int .i64 0, .int .i64 0, .int .i64 0, .int .i64 0, .int .i64 0], .int .i64 1]) (by simp [results, Tryd.results16, go_sem, d0, d1, d2, d3, d4, d5]) rfl ⟨rfl, HB.out⟩
set_option maxHeartbeats 800000 in
set_option maxRecDepth 100000 in
theorem rtake_none {B : Nat} {W : World} {ub : Nat} {lv : Value} {s : CS} (h : Rc B W ub lv s) (i : Int) (hr : rowAt s.rows i = none) :
    Calls Tryd.prog 18 #[.pointer (some ⟨ub, 0, none⟩), .int .i64 i] W fun e W' => e = .returned (.tuple #[.agg #[.int .i64 0, .int .i64 0, .int .i64 0, .int .i64 0, .int .i64 0, .int .i64 0], .int .i64 7]) ∧ Below W.heap.size W W' := by
  have HA := hid (rhas_any (h.later (bAl W (.cells #[.int .i64 0, .int .i64 0, .int .i64 0, .int .i64 0, .int .i64 0, .int .i64 0] 34))) i)
  rw [hr] at HA
  clear h hr
  go_enter Tryd.func18, Tryd.ntmps18
  go_wp2_with fail
  refine HA.out.mono ?_
  rintro e w1 ⟨rfl, rfl⟩
  clear HA
  go_wp2_with fail
  exact bodyPost_ret (v := .tuple #[.agg #[.int .i64 0, .int .i64 0, .int .i64 0, .int .i64 0, .int .i64 0, .int .i64 0], .int .i64 7]) (by simp [results, Tryd.results18, go_sem]) rfl ⟨rfl, bAl _ _⟩
set_option maxHeartbeats 800000 in
set_option maxRecDepth 100000 in
theorem rset_none {B : Nat} {W : World} {ub : Nat} {lv : Value} {s : CS} (h : Rc B W ub lv s) (i cell value frame : Int) (hr : rowAt s.rows i = none) :
    Calls Tryd.prog 14 #[.pointer (some ⟨ub, 0, none⟩), .int .i64 i, .int .i64 cell, .int .i64 value, .int .i64 frame] W fun e W' => e = .returned (.tuple #[.agg #[.int .i64 0, .int .i64 0, .int .i64 0, .int .i64 0, .int .i64 0, .int .i64 0], .int .i64 7]) ∧ Below W.heap.size W W' := by
  have HA := hid (rhas_any (h.later (bAl W (.cells #[.int .i64 0, .int .i64 0, .int .i64 0, .int .i64 0, .int .i64 0, .int .i64 0] 34))) i)
  rw [hr] at HA
  clear h hr
  go_enter Tryd.func14, Tryd.ntmps14
  go_wp2_with fail
  refine HA.out.mono ?_
  rintro e w1 ⟨rfl, rfl⟩
  clear HA
  go_wp2_with fail
  exact bodyPost_ret (v := .tuple #[.agg #[.int .i64 0, .int .i64 0, .int .i64 0, .int .i64 0, .int .i64 0, .int .i64 0], .int .i64 7]) (by simp [results, Tryd.results14, go_sem]) rfl ⟨rfl, bAl _ _⟩
set_option maxHeartbeats 800000 in
set_option maxRecDepth 100000 in
theorem rset_cell {B : Nat} {W : World} {ub : Nat} {lv : Value} {s : CS} (h : Rc B W ub lv s) (n : Nat) (hn : n < s.rows.length) (cell value frame : Int) (hc : cell < 0 ∨ (s.w : Int) ≤ cell) :
    Calls Tryd.prog 14 #[.pointer (some ⟨ub, 0, none⟩), .int .i64 (n : Int), .int .i64 cell, .int .i64 value, .int .i64 frame] W fun e W' => e = .returned (.tuple #[.agg #[.int .i64 0, .int .i64 0, .int .i64 0, .int .i64 0, .int .i64 0, .int .i64 0], .int .i64 1]) ∧ Below W.heap.size W W' := by
  have HA := hid (rhas_any (h.later (bAl W (.cells #[.int .i64 0, .int .i64 0, .int .i64 0, .int .i64 0, .int .i64 0, .int .i64 0] 34))) (n : Int))
  obtain ⟨qn, hqn⟩ := at_lt s.rows n hn
  rw [rowAt_nat, hqn] at HA
  clear hqn
  have c1 := h.c1
  have hl := World.block_lt_of_cell? W _ c1
  have hnn := World.new_ne W _ c1
  clear h hn
  rcases hc with hc | hc
  all_goals
    try (have hc0 : ¬ (cell < 0) := by omega)
    go_enter Tryd.func14, Tryd.ntmps14
    go_wp2_with fail
    refine HA.out.mono ?_
    rintro e w1 ⟨rfl, rfl⟩
    clear HA
    go_wp2_with fail
    exact bodyPost_ret (v := .tuple #[.agg #[.int .i64 0, .int .i64 0, .int .i64 0, .int .i64 0, .int .i64 0, .int .i64 0], .int .i64 1]) (by simp [results, Tryd.results14, go_sem]) rfl ⟨rfl, bAl _ _⟩
end Go.Proofs.YtpglanlpnapddaaDoor
