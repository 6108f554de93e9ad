/- newest: the greatest frame of each component. -/
import Derived.Test.YtfabmleiibnhdaaDoorQuQc
import Derived.Deep.DeepCutAuto
import Derived.Deep.CutRange
namespace Go.Proofs.YtfabmleiibnhdaaDoor.Qu
open Go.RowKit Go.Shelf Go.Maps
open Go.Proofs.YtfabmleiibnhdaaDoor.Rs (Prt PRow Six six_blk)
open Go.Proofs.YtfabmleiibnhdaaDoor.At (St bAl cell_blk blk_seen blk_free)
set_option maxHeartbeats 3200000 in
set_option maxRecDepth 100000 in
theorem newest_any {W : World} {v : Value} {ps : List Prt} (hP : PRow W v ps) (hl : ps.length ≤ 1000) (hJ : ∀ p ∈ ps, J64 p.c ∧ J64 p.t) :
    Calls Tryd.prog 20 #[v] W fun e W' => ∃ mb, e = .returned (.map (some mb)) ∧ Tm W' mb ps.length (tk ps) ∧ W.heap.size ≤ mb ∧ Below W.heap.size W W' := by
  have HP := hid hP
  have HJ := hid hJ
  obtain ⟨a, c, rfl, -⟩ := hP
  have hli : (ps.length : Int) ≤ 1000 := by omega
  obtain ⟨w1, hw1⟩ : ∃ w1, w1 = W.alloc (.map #[] 0) := ⟨_, rfl⟩
  have T1 : Hid (Tm w1 W.heap.size 0 (fun _ => none)) := by rw [hw1]; exact tm_made W
  have B1 : Hid (Below W.heap.size W w1) := by rw [hw1]; exact bAl _ _
  have HW1 := hid hw1
  clear hw1 hJ
  have hmm := @run_makeMap Tryd.prog
  go_enter Tryd.func20, Tryd.ntmps20
  go_upto_region 2 with fail
  rw [← HW1.out]
  clear hmm
  go_wp2_with fail
  go_loopg [5, 9] ps.length (fun gh _ q wr => ∃ k : Nat, k ≤ ps.length ∧ gh = ps.length - k ∧ q = .int .i64 (k : Int) ∧ Hid (Tm wr W.heap.size k (tk (ps.take k))) ∧ Hid (Below W.heap.size W wr))
  case atStart => exact ⟨0, Nat.zero_le _, rfl, rfl, T1.out, B1.out⟩
  case round =>
    clear T1 B1
    rename World => wr
    obtain ⟨k, hk, rfl, rfl, HT, HB⟩ := hrel
    by_cases hlt : k < ps.length
    · have hki : (k : Int) < (ps.length : Int) := by omega
      obtain ⟨p, hp⟩ := at_lt ps k hlt
      obtain ⟨b, o, rfl, six⟩ := (HP.out.later HB.out).at hp
      obtain ⟨d0, d1, d2, d3, d4, d5⟩ := six
      have hj := HJ.out p (List.mem_of_getElem? hp)
      have TN := hid (tk_next hp)
      obtain ⟨w4, hw4⟩ : ∃ w4, w4 = wr.alloc (.cells #[.int .i64 p.c, .int .i64 p.v0, .int .i64 p.v1, .int .i64 p.v2, .int .i64 p.v3, .int .i64 p.t] 55) := ⟨_, rfl⟩
      have b4 : Below wr.heap.size wr w4 := by rw [hw4]; exact bAl _ _
      have r4 : w4.heap[wr.heap.size]? = some (.cells p.arr 55 (0, 0)) := by rw [hw4]; exact heap_alloc_new wr _
      have y0 := (six_blk r4).c0
      have y5 := (six_blk r4).c5
      have T4 := hid (HT.out.later b4)
      have B4 := hid (HB.out.trans (b4.mono HB.out.size))
      have HW4 := hid hw4
      have LK := hid (lacks_any T4.out p.c hj.1)
      have L1 : Hid _ := T4.out.look1 p.c hj.1
      have HJ1 := hid hj.1
      have HJ2 := hid hj.2
      obtain ⟨f, hf⟩ : ∃ f, f = tk (ps.take k) := ⟨_, rfl⟩
      rw [← hf] at LK TN T4 L1
      clear hp hw4 b4 r4 hf hj HT
      go_upto_region 5 with fail
      rw [← HW4.out]
      cases hn : f p.c with
      | none =>
        have E : Hid (tk (ps.take (k + 1)) = fun j => if j = p.c then some p.t else f j) := by
          show _ = _
          rw [TN.out]; unfold stp; rw [hn]
        obtain ⟨w6, s6, T6, S6⟩ := T4.out.store (by omega) p.c p.t HJ1.out HJ2.out
        have T6' := hid T6
        have B6 := hid (B4.out.trans (S6.below (B := W.heap.size) (fun x hx => by omega) B4.out.size))
        rw [hn] at LK
        clear T6 S6 hn TN
        go_wp2_with fail
        refine LK.out.mono ?_
        rintro e w5 ⟨rfl, hw⟩
        obtain rfl := hw.symm
        clear LK
        go_wp2_with fail
        go_roundg (ps.length - (k + 1))
        case measure => omega
        case rel => exact ⟨k + 1, by omega, rfl, by go_num, by rw [E.out]; exact T6'.out, B6.out⟩
      | some x =>
        have l1 := L1.out
        rw [hn] at l1 LK
        have l1 : (Instr.lookup 69 (.map (some W.heap.size)) (.int .i64 p.c) false).run Tryd.prog w4 = .ok (.int .i64 x) w4 := l1
        by_cases hx : x < p.t
        · have E : Hid (tk (ps.take (k + 1)) = fun j => if j = p.c then some p.t else f j) := by
            show _ = _
            rw [TN.out]; unfold stp; rw [hn]; simp only; rw [if_pos hx]
          obtain ⟨w6, s6, T6, S6⟩ := T4.out.store (by omega) p.c p.t HJ1.out HJ2.out
          have T6' := hid T6
          have B6 := hid (B4.out.trans (S6.below (B := W.heap.size) (fun x hx => by omega) B4.out.size))
          clear T6 S6 hn TN
          go_wp2_with fail
          refine LK.out.mono ?_
          rintro e w5 ⟨rfl, hw⟩
          obtain rfl := hw.symm
          clear LK
          go_wp2_with fail
          go_roundg (ps.length - (k + 1))
          case measure => omega
          case rel => exact ⟨k + 1, by omega, rfl, by go_num, by rw [E.out]; exact T6'.out, B6.out⟩
        · have E : Hid (tk (ps.take (k + 1)) = f) := by
            show _ = _
            rw [TN.out]; unfold stp; rw [hn]; simp only; rw [if_neg hx]
          have T6 : Hid (Tm w4 W.heap.size (k + 1) f) := by
            obtain ⟨D, q1, q2, q3⟩ := T4.out
            exact ⟨D, q1, q2, by omega⟩
          clear hn TN
          go_wp2_with fail
          refine LK.out.mono ?_
          rintro e w5 ⟨rfl, hw⟩
          obtain rfl := hw.symm
          clear LK
          go_wp2_with fail
          go_roundg (ps.length - (k + 1))
          case measure => omega
          case rel => exact ⟨k + 1, by omega, rfl, by go_num, by rw [E.out]; exact T6.out, B4.out⟩
    · have hki : ¬ ((k : Int) < (ps.length : Int)) := by omega
      have T8 : Hid (Tm wr W.heap.size ps.length (tk ps)) := by
        have := HT.out
        rw [List.take_of_length_le (by omega), show k = ps.length by omega] at this
        exact this
      go_wp2_with fail
      go_ret
      exact ⟨_, rfl, T8.out, Nat.le_refl _, HB.out⟩
end Go.Proofs.YtfabmleiibnhdaaDoor.Qu
