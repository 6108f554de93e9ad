/- The document's badges: Pin that is refused. -/
import Derived.Test.YtiebbedpjogjfaaDoorBdCg
namespace Go.Proofs.YtiebbedpjogjfaaDoor.Bd
open Go.RowKit Go.Shelf Go.Maps
section
variable {B : Nat} {W W' : World} {v : Value} {l : Prs} {ub : Nat} {n : Int}
set_option maxHeartbeats 1600000 in
set_option maxRecDepth 100000 in
theorem rpin_arg (h : Rb B W ub v n l) (id i g : Int) (ha : id < 1 ∨ n ≤ id) :
    Calls Tryd.prog 10 #[.pointer (some ⟨ub, 0, none⟩), .int .i64 id, .agg #[.int .i64 i, .int .i64 g]] W fun e W' => e = .returned (.int .i64 1) ∧ Below W.heap.size W W' := by
  obtain ⟨w1, hw1⟩ : ∃ w1, w1 = W.alloc (.cells #[.int .i64 i, .int .i64 g] 29) := ⟨_, rfl⟩
  have b1 : Below W.heap.size W w1 := by rw [hw1]; exact bAl _ _
  have c1 := (h.later b1).c1
  have HW1 := hid hw1
  have B1 := hid b1
  clear h hw1 b1
  by_cases h1 : id < 1
  · clear ha
    go_enter Tryd.func10, Tryd.ntmps10
    go_upto_region 1 with fail
    rw [← HW1.out]
    go_wp2_with fail
    go_ret
    exact ⟨rfl, B1.out⟩
  · have h2 : id ≥ n := by omega
    clear ha
    go_enter Tryd.func10, Tryd.ntmps10
    go_upto_region 1 with fail
    rw [← HW1.out]
    go_wp2_with fail
    go_ret
    exact ⟨rfl, B1.out⟩
set_option maxHeartbeats 3200000 in
set_option maxRecDepth 100000 in
theorem rpin_twice (h : Rb B W ub v n l) (id i g : Int) (hi : I64 i) (hg : I64 g) (h64 : ∀ x ∈ l, I64 x.2.1 ∧ I64 x.2.2) (hl : l.length ≤ 900) (h1 : 1 ≤ id) (h2 : id < n) (hw : (who l id).isSome = true ∨ (num l (i, g)).isSome = true) :
    Calls Tryd.prog 10 #[.pointer (some ⟨ub, 0, none⟩), .int .i64 id, .agg #[.int .i64 i, .int .i64 g]] W fun e W' => e = .returned (.int .i64 9) ∧ Below W.heap.size W W' := by
  obtain ⟨w1, hw1⟩ : ∃ w1, w1 = W.alloc (.cells #[.int .i64 i, .int .i64 g] 29) := ⟨_, rfl⟩
  have b1 : Below W.heap.size W w1 := by rw [hw1]; exact bAl _ _
  have r1 : w1.heap[W.heap.size]? = some (.cells #[.int .i64 i, .int .i64 g] 29 (0, 0)) := by rw [hw1]; exact heap_alloc_new W _
  have R1 := hid r1
  have H := hid (h.later b1)
  have c1 := H.out.c1
  have EN := hid (rent_any H.out id (by omega))
  have IDC := hid (fun W' (hb : Below w1.heap.size w1 W') => rid_any (H.out.later hb) i g hi hg h64 (by omega))
  generalize (entO (who l id)).1 = a0 at *
  generalize (entO (who l id)).2 = a1 at *
  generalize (who l id).isSome = p at *
  generalize (num l (i, g)).getD 0 = x at *
  generalize (num l (i, g)).isSome = q at *
  have h1i : ¬ id < 1 := by omega
  have h2i : ¬ id ≥ n := by omega
  have HW1 := hid hw1
  have B1 := hid b1
  have HW := hid hw
  clear h hw1 b1 r1 h64 hi hg hw
  go_enter Tryd.func10, Tryd.ntmps10
  go_upto_region 1 with fail
  rw [← HW1.out]
  go_wp2_with fail
  refine EN.out.mono ?_
  rintro e w2 ⟨rfl, hb2⟩
  obtain ⟨w3, hw3⟩ : ∃ w3, w3 = w2.alloc (.cells #[.int .i64 a0, .int .i64 a1] 29) := ⟨_, rfl⟩
  have b3 : Below w2.heap.size w2 w3 := by rw [hw3]; exact bAl _ _
  have bb3 := hb2.trans (b3.mono hb2.size)
  have B3 := hid bb3
  have ra := blk_seen bb3 (Nat.le_refl _) R1.out
  have y0 : w3.cell? ⟨W.heap.size, 0, none⟩ = some (.int .i64 i) := cell_blk ra rfl
  have y1 : w3.cell? ⟨W.heap.size, 1, none⟩ = some (.int .i64 g) := cell_blk ra rfl
  have IDD := hid (IDC.out w3 bb3)
  have HW3 := hid hw3
  clear EN hb2 b3 bb3 ra hw3 c1
  go_upto_region 4 with fail
  rw [← HW3.out]
  go_wp2_with fail
  refine IDD.out.mono ?_
  rintro e w4 ⟨rfl, hb4⟩
  have bb4 := B3.out.trans (hb4.mono B3.out.size)
  have BF := hid (B1.out.trans (bb4.mono B1.out.size))
  clear IDD hb4 bb4 y0 y1
  cases p with
  | true =>
    go_wp2_with fail
    go_ret
    exact ⟨rfl, BF.out⟩
  | false =>
    obtain rfl : q = true := by have := HW.out; simpa using this
    go_wp2_with fail
    go_ret
    exact ⟨rfl, BF.out⟩
end
end Go.Proofs.YtiebbedpjogjfaaDoor.Bd
