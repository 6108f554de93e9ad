/- Set. -/
import Derived.Test.YtpglanlpnapddaaDoorCi
namespace Go.Proofs.YtpglanlpnapddaaDoor
open Go.RowKit Go.Shelf Go.Maps
set_option maxHeartbeats 800000 in
set_option maxRecDepth 100000 in
theorem set_err (Ad : Nat → Addr) (W : World) (x : Option Addr) (i cell value frame : Int) (k : Nat)
    (RC : Calls Tryd.prog 24 #[.pointer x, .int .i64 i] (W.alloc (.cells #[.int .i64 0, .int .i64 0, .int .i64 0, .int .i64 0, .int .i64 0, .int .i64 0] 34)) fun e W' => ∃ t q, e = .returned (.tuple #[.agg #[.int .i64 0, .int .i64 0, .int .i64 0, .int .i64 0, .int .i64 0, .int .i64 0], .iface t q]) ∧ Err Ad W' (.iface t q) k 1 ∧ Below (W.alloc (.cells #[.int .i64 0, .int .i64 0, .int .i64 0, .int .i64 0, .int .i64 0, .int .i64 0] 34)).heap.size (W.alloc (.cells #[.int .i64 0, .int .i64 0, .int .i64 0, .int .i64 0, .int .i64 0, .int .i64 0] 34)) W') :
    Calls Tryd.prog 13 #[.pointer x, .int .i64 i, .int .i64 cell, .int .i64 value, .int .i64 frame] W fun e W' => ∃ t q, e = .returned (.tuple #[.agg #[.int .i64 0, .int .i64 0, .int .i64 0, .int .i64 0, .int .i64 0, .int .i64 0], .iface t q]) ∧ Err Ad W' (.iface t q) k 2 ∧ Below W.heap.size W W' := by
  have BA : Hid (Below W.heap.size W (W.alloc (.cells #[.int .i64 0, .int .i64 0, .int .i64 0, .int .i64 0, .int .i64 0, .int .i64 0] 34))) := bAl _ _
  have HC := hid RC
  clear RC
  have AC := hid (fun s v w h => at_err Ad s v k 1 w h)
  go_enter Tryd.func13, Tryd.ntmps13
  go_wp2_with fail
  refine HC.out.mono ?_
  rintro e w1 ⟨t, q, rfl, hv, hb⟩
  have HB := hid (BA.out.trans (hb.mono BA.out.size))
  have HH : Hid (w1.heap[W.heap.size]? = some (.cells (Pt.zero.arr 0) 34 (0, 0))) := blk_seen hb (Nat.le_refl _) (heap_alloc_new W (.cells #[.int .i64 0, .int .i64 0, .int .i64 0, .int .i64 0, .int .i64 0, .int .i64 0] 34))
  have HV := hid (hv.later (bAl w1 (.cells #[.int .i64 0, .int .i64 0, .int .i64 0, .int .i64 0, .int .i64 0, .int .i64 0] 34)))
  clear hv hb HC
  go_wp2_with fail
  refine (AC.out _ _ _ HV.out).mono ?_
  rintro e w2 ⟨t2, q2, rfl, hv2, hb2⟩
  have bb := (bAl w1 (.cells #[.int .i64 0, .int .i64 0, .int .i64 0, .int .i64 0, .int .i64 0, .int .i64 0] 34)).trans (hb2.mono (bAl w1 (.cells #[.int .i64 0, .int .i64 0, .int .i64 0, .int .i64 0, .int .i64 0, .int .i64 0] 34)).size)
  have HV2 := hid hv2
  have HB2 := hid (HB.out.trans (bb.mono HB.out.size))
  have HH2 := hid (blk_seen bb (Nat.le_refl _) HH.out)
  obtain ⟨d0, d1, d2, d3, d4, d5, f0, f1, f2, f3, f4, f5⟩ := lies HH2.out
  unfold Pt.zero at d1 d2 d3 d4 d5
  clear hv2 hb2 bb AC HV HH
  go_wp2_with fail
  have PS := put6_same HH2.out
  unfold put6 Pt.zero at PS
  rw [PS]
  exact bodyPost_ret (v := .tuple #[.agg #[.int .i64 0, .int .i64 0, .int .i64 0, .int .i64 0, .int .i64 0, .int .i64 0], .iface t2 q2]) (by simp [results, Tryd.results13, go_sem, d0, d1, d2, d3, d4, d5]) rfl ⟨t2, q2, rfl, HV2.out, HB2.out⟩
theorem set_nil (Ad : Nat → Addr) (W : World) (hE : Env3 W Ad) (i cell value frame : Int) :
    Calls Tryd.prog 13 #[.pointer none, .int .i64 i, .int .i64 cell, .int .i64 value, .int .i64 frame] W fun e W' => ∃ t q, e = .returned (.tuple #[.agg #[.int .i64 0, .int .i64 0, .int .i64 0, .int .i64 0, .int .i64 0, .int .i64 0], .iface t q]) ∧ Err Ad W' (.iface t q) 2 2 ∧ Below W.heap.size W W' :=
  set_err Ad W none i cell value frame 2 (row_nil Ad _ (hE.later (bAl _ _)) i)
theorem set_none (Ad : Nat → Addr) {B : Nat} {W : World} {rb mb : Nat} {sv : Value} {s : CS} (h : Cl B W rb mb sv s) (hE : Env3 W Ad) (i cell value frame : Int) (hi : I64 i) (hr : rowAt s.rows i = none) :
    Calls Tryd.prog 13 #[.pointer (some ⟨rb, 0, none⟩), .int .i64 i, .int .i64 cell, .int .i64 value, .int .i64 frame] W fun e W' => ∃ t q, e = .returned (.tuple #[.agg #[.int .i64 0, .int .i64 0, .int .i64 0, .int .i64 0, .int .i64 0, .int .i64 0], .iface t q]) ∧ Err Ad W' (.iface t q) 7 2 ∧ Below W.heap.size W W' :=
  set_err Ad W _ i cell value frame 7 (row_none Ad (h.later (bAl _ _)) (hE.later (bAl _ _)) i hi hr)
set_option maxHeartbeats 1600000 in
set_option maxRecDepth 100000 in
theorem set_cell (Ad : Nat → Addr) {B : Nat} {W : World} {rb mb : Nat} {sv : Value} {s : CS} (h : Cl B W rb mb sv s) (hE : Env3 W Ad) (n : Nat) (p : Pt) (hp : s.rows[n]? = some p) (cell value frame : Int) (hc : cell < 0 ∨ (s.w : Int) ≤ cell) :
    Calls Tryd.prog 13 #[.pointer (some ⟨rb, 0, none⟩), .int .i64 (n : Int), .int .i64 cell, .int .i64 value, .int .i64 frame] W fun e W' => ∃ t q, e = .returned (.tuple #[.agg #[.int .i64 0, .int .i64 0, .int .i64 0, .int .i64 0, .int .i64 0, .int .i64 0], .iface t q]) ∧ Err Ad W' (.iface t q) 1 2 ∧ Below W.heap.size W W' := by
  have BA : Hid (Below W.heap.size W (W.alloc (.cells #[.int .i64 0, .int .i64 0, .int .i64 0, .int .i64 0, .int .i64 0, .int .i64 0] 34))) := bAl _ _
  have RW := hid (row_some (h.later BA.out) n p hp)
  have HE := hid hE
  have AC := hid (fun s v d w h => at_err Ad s v 1 d w h)
  have H := hid h
  unfold Pt.val at RW
  rcases hc with hc | hc
  all_goals
    clear h hE hp
    try (have hc0 : ¬ (cell < 0) := by omega)
    go_enter Tryd.func13, Tryd.ntmps13
    go_wp2_with fail
    refine RW.out.mono ?_
    rintro e w1 ⟨rfl, hb⟩
    have HH : Hid (w1.heap[W.heap.size]? = some (.cells (Pt.zero.arr 0) 34 (0, 0))) := blk_seen hb (Nat.le_refl _) (heap_alloc_new W (.cells #[.int .i64 0, .int .i64 0, .int .i64 0, .int .i64 0, .int .i64 0, .int .i64 0] 34))
    have B1 := hid (BA.out.trans (hb.mono BA.out.size))
    clear hb RW
    obtain ⟨w2, hw2⟩ : ∃ w2, w2 = w1.alloc (.cells #[.int .i64 s.comp, .int .i64 p.a, .int .i64 p.b, .int .i64 p.c, .int .i64 p.d, .int .i64 p.t] 34) := ⟨_, rfl⟩
    have b12 : Below w1.heap.size w1 w2 := by rw [hw2]; exact bAl _ _
    have B2 := hid (B1.out.trans (b12.mono B1.out.size))
    have H2 := hid (blk_seen b12 (Nat.le_refl _) HH.out)
    have HW2 := hid hw2
    have e1 := (HE.out.later B1.out).c1
    have hel := World.block_lt_of_cell? w1 _ e1
    have hen := World.new_ne w1 _ e1
    have c1 := (H.out.later B1.out).c1
    have hrl := World.block_lt_of_cell? w1 _ c1
    have hrn := World.new_ne w1 _ c1
    clear hw2 b12
    go_wp2_with fail
    rw [← HW2.out]
    refine (AC.out _ _ 0 _ (err_leaf Ad _ 1 (by decide))).mono ?_
    rintro e w3 ⟨t3, q3, rfl, hv3, hb3⟩
    have HV3 := hid hv3
    have B3 := hid (B2.out.trans (hb3.mono B2.out.size))
    have H3 := hid (blk_seen hb3 (Nat.le_refl _) H2.out)
    clear hv3 hb3 e1 hel hen c1 hrl hrn
    go_wp2_with fail
    refine (AC.out _ _ 1 _ HV3.out).mono ?_
    rintro e w4 ⟨t4, q4, rfl, hv4, hb4⟩
    have HV4 := hid hv4
    have B4 := hid (B3.out.trans (hb4.mono B3.out.size))
    have H4 := hid (blk_seen hb4 (Nat.le_refl _) H3.out)
    obtain ⟨d0, d1, d2, d3, d4, d5, f0, f1, f2, f3, f4, f5⟩ := lies H4.out
    unfold Pt.zero at d1 d2 d3 d4 d5
    clear hv4 hb4 AC
    go_wp2_with fail
    have PS := put6_same H4.out
    unfold put6 Pt.zero at PS
    rw [PS]
    exact bodyPost_ret (v := .tuple #[.agg #[.int .i64 0, .int .i64 0, .int .i64 0, .int .i64 0, .int .i64 0, .int .i64 0], .iface t4 q4]) (by simp [results, Tryd.results13, go_sem, d0, d1, d2, d3, d4, d5]) rfl ⟨t4, q4, rfl, HV4.out, B4.out⟩
end Go.Proofs.YtpglanlpnapddaaDoor
