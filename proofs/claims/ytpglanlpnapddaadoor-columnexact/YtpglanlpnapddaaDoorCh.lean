/- Take: what goes wrong; the cells that are written in their place. -/
import Derived.Test.YtpglanlpnapddaaDoorCg
namespace Go.Proofs.YtpglanlpnapddaaDoor
open Go.RowKit Go.Shelf Go.Maps
theorem splice_take {w : Nat} (hw : w ≤ 4) {cur : List Value} {l : List Pt} (hc : cur.take (l.length * w) = flat w l) (hL : l.length * w ≤ cur.length) {n : Nat} (hn : n < l.length) (p : Pt) :
    (cur.take (n * w) ++ p.row w ++ cur.drop (n * w + w)).take (l.length * w) = flat w (l.set n p) := by
  have hnw : n * w + w ≤ l.length * w := by rw [← Nat.succ_mul]; exact Nat.mul_le_mul_right _ hn
  rw [← flat_splice hw hn, ← hc, List.take_take, Nat.min_eq_left (by omega), List.take_append, List.take_of_length_le (by simp [p.row_len hw]; omega), List.drop_take]
  congr 2
  simp [p.row_len hw]
  omega
theorem set_take {w : Nat} (hw : w ≤ 4) {cur : List Value} {l : List Pt} (hc : cur.take (l.length * w) = flat w l) {n : Nat} {p : Pt} (hn : l[n]? = some p) {j : Nat} (hj : j < w) (x f : Int) :
    (cur.set (n * w + j) (vI x)).take (l.length * w) = flat w (l.set n (p.put j x f)) := by
  rw [← flat_set hw hn hj x f, ← hc, List.take_set]
set_option maxHeartbeats 800000 in
set_option maxRecDepth 100000 in
theorem take_err (Ad : Nat → Addr) (W : World) (x : Option Addr) (i : Int) (k : Nat)
    (RC : Calls Tryd.prog 24 #[.pointer x, .int .i64 i] (W.alloc (.cells #[.int .i64 0, .int .i64 0, .int .i64 0, .int .i64 0, .int .i64 0, .int .i64 0] 34)) fun e W' => ∃ t q, e = .returned (.tuple #[.agg #[.int .i64 0, .int .i64 0, .int .i64 0, .int .i64 0, .int .i64 0, .int .i64 0], .iface t q]) ∧ Err Ad W' (.iface t q) k 1 ∧ Below (W.alloc (.cells #[.int .i64 0, .int .i64 0, .int .i64 0, .int .i64 0, .int .i64 0, .int .i64 0] 34)).heap.size (W.alloc (.cells #[.int .i64 0, .int .i64 0, .int .i64 0, .int .i64 0, .int .i64 0, .int .i64 0] 34)) W') :
    Calls Tryd.prog 17 #[.pointer x, .int .i64 i] W fun e W' => ∃ t q, e = .returned (.tuple #[.agg #[.int .i64 0, .int .i64 0, .int .i64 0, .int .i64 0, .int .i64 0, .int .i64 0], .iface t q]) ∧ Err Ad W' (.iface t q) k 2 ∧ Below W.heap.size W W' := by
  have BA : Hid (Below W.heap.size W (W.alloc (.cells #[.int .i64 0, .int .i64 0, .int .i64 0, .int .i64 0, .int .i64 0, .int .i64 0] 34))) := bAl _ _
  have HC := hid RC
  clear RC
  have AC := hid (fun s v w h => at_err Ad s v k 1 w h)
  go_enter Tryd.func17, Tryd.ntmps17
  go_wp2_with fail
  refine HC.out.mono ?_
  rintro e w1 ⟨t, q, rfl, hv, hb⟩
  have HB := hid (BA.out.trans (hb.mono BA.out.size))
  have HH : Hid (w1.heap[W.heap.size]? = some (.cells (Pt.zero.arr 0) 34 (0, 0))) := blk_seen hb (Nat.le_refl _) (heap_alloc_new W (.cells #[.int .i64 0, .int .i64 0, .int .i64 0, .int .i64 0, .int .i64 0, .int .i64 0] 34))
  have HV := hid (hv.later (bAl w1 (.cells #[.int .i64 0, .int .i64 0, .int .i64 0, .int .i64 0, .int .i64 0, .int .i64 0] 34)))
  clear hv hb HC
  go_wp2_with fail
  refine (AC.out _ _ _ HV.out).mono ?_
  rintro e w2 ⟨t2, q2, rfl, hv2, hb2⟩
  have bb := (bAl w1 (.cells #[.int .i64 0, .int .i64 0, .int .i64 0, .int .i64 0, .int .i64 0, .int .i64 0] 34)).trans (hb2.mono (bAl w1 (.cells #[.int .i64 0, .int .i64 0, .int .i64 0, .int .i64 0, .int .i64 0, .int .i64 0] 34)).size)
  have HV2 := hid hv2
  have HB2 := hid (HB.out.trans (bb.mono HB.out.size))
  have HH2 := hid (blk_seen bb (Nat.le_refl _) HH.out)
  obtain ⟨d0, d1, d2, d3, d4, d5, f0, f1, f2, f3, f4, f5⟩ := lies HH2.out
  unfold Pt.zero at d1 d2 d3 d4 d5
  clear hv2 hb2 bb AC HV HH
  go_wp2_with fail
  have PS := put6_same HH2.out
  unfold put6 Pt.zero at PS
  rw [PS]
  exact bodyPost_ret (v := .tuple #[.agg #[.int .i64 0, .int .i64 0, .int .i64 0, .int .i64 0, .int .i64 0, .int .i64 0], .iface t2 q2]) (by simp [results, Tryd.results17, go_sem, d0, d1, d2, d3, d4, d5]) rfl ⟨t2, q2, rfl, HV2.out, HB2.out⟩
theorem take_nil (Ad : Nat → Addr) (W : World) (hE : Env3 W Ad) (i : Int) :
    Calls Tryd.prog 17 #[.pointer none, .int .i64 i] W fun e W' => ∃ t q, e = .returned (.tuple #[.agg #[.int .i64 0, .int .i64 0, .int .i64 0, .int .i64 0, .int .i64 0, .int .i64 0], .iface t q]) ∧ Err Ad W' (.iface t q) 2 2 ∧ Below W.heap.size W W' :=
  take_err Ad W none i 2 (row_nil Ad _ (hE.later (bAl _ _)) i)
theorem take_none (Ad : Nat → Addr) {B : Nat} {W : World} {rb mb : Nat} {sv : Value} {s : CS} (h : Cl B W rb mb sv s) (hE : Env3 W Ad) (i : Int) (hi : I64 i) (hr : rowAt s.rows i = none) :
    Calls Tryd.prog 17 #[.pointer (some ⟨rb, 0, none⟩), .int .i64 i] W fun e W' => ∃ t q, e = .returned (.tuple #[.agg #[.int .i64 0, .int .i64 0, .int .i64 0, .int .i64 0, .int .i64 0, .int .i64 0], .iface t q]) ∧ Err Ad W' (.iface t q) 7 2 ∧ Below W.heap.size W W' :=
  take_err Ad W _ i 7 (row_none Ad (h.later (bAl _ _)) (hE.later (bAl _ _)) i hi hr)
end Go.Proofs.YtpglanlpnapddaaDoor
