/- The document's badges: Pin, Give that is refused. -/
import Derived.Test.YtiebbedpjogjfaaDoorBdCe
namespace Go.Proofs.YtiebbedpjogjfaaDoor.Bd
open Go.RowKit Go.Shelf Go.Maps
section
variable {B : Nat} {W W' : World} {v : Value} {l : Prs} {ub : Nat} {n : Int}
set_option maxHeartbeats 1600000 in
set_option maxRecDepth 100000 in
theorem rgive_no (h : Rb B W ub v n l) (i g : Int) (hi : I64 i) (hg : I64 g) (h64 : ∀ x ∈ l, I64 x.2.1 ∧ I64 x.2.2) (hl : l.length ≤ 900) (r : Int) (hr : (num l (i, g)).isSome = true ∧ r = 9 ∨ num l (i, g) = none ∧ 1073741824 < n ∧ r = 6) :
    Calls Tryd.prog 8 #[.pointer (some ⟨ub, 0, none⟩), .agg #[.int .i64 i, .int .i64 g]] W fun e W' => e = .returned (.tuple #[.int .i64 0, .int .i64 r]) ∧ Below W.heap.size W W' := by
  obtain ⟨w1, hw1⟩ : ∃ w1, w1 = W.alloc (.cells #[.int .i64 i, .int .i64 g] 29) := ⟨_, rfl⟩
  have b1 : Below W.heap.size W w1 := by rw [hw1]; exact bAl _ _
  have r1 : w1.heap[W.heap.size]? = some (.cells #[.int .i64 i, .int .i64 g] 29 (0, 0)) := by rw [hw1]; exact heap_alloc_new W _
  have y0 : w1.cell? ⟨W.heap.size, 0, none⟩ = some (.int .i64 i) := cell_blk r1 rfl
  have y1 : w1.cell? ⟨W.heap.size, 1, none⟩ = some (.int .i64 g) := cell_blk r1 rfl
  have ID := hid (rid_any (h.later b1) i g hi hg h64 (by omega))
  have H := hid (h.later b1)
  have HW1 := hid hw1
  have B1 := hid b1
  rcases hr with ⟨hs, rfl⟩ | ⟨hs, hn, rfl⟩
  · rw [hs] at ID
    generalize (num l (i, g)).getD 0 = x at *
    clear h hw1 b1 r1 h64 hs hi hg
    go_enter Tryd.func8, Tryd.ntmps8
    go_upto_region 1 with fail
    rw [← HW1.out]
    go_wp2_with fail
    refine ID.out.mono ?_
    rintro e w2 ⟨rfl, hb2⟩
    have BF := hid (B1.out.trans (hb2.mono B1.out.size))
    go_wp2_with fail
    exact bodyPost_ret (v := .tuple #[.int .i64 0, .int .i64 9]) (by simp [results, Tryd.results8, go_sem]) rfl ⟨rfl, BF.out⟩
  · rw [hs] at ID
    clear h hw1 b1 r1 h64 hs hi hg
    go_enter Tryd.func8, Tryd.ntmps8
    go_upto_region 1 with fail
    rw [← HW1.out]
    go_wp2_with fail
    refine ID.out.mono ?_
    rintro e w2 ⟨rfl, hb2⟩
    have c1 := (H.out.later hb2).c1
    have BF := hid (B1.out.trans (hb2.mono B1.out.size))
    go_wp2_with fail
    exact bodyPost_ret (v := .tuple #[.int .i64 0, .int .i64 6]) (by simp [results, Tryd.results8, go_sem]) rfl ⟨rfl, BF.out⟩
set_option maxHeartbeats 3200000 in
set_option maxRecDepth 100000 in
theorem rpin_ok (h : Rb B W ub v n l) (id i g : Int) (hi : I64 i) (hg : I64 g) (h64 : ∀ x ∈ l, I64 x.2.1 ∧ I64 x.2.2) (hl : l.length ≤ 900) (h1 : 1 ≤ id) (h2 : id < n) (hw : who l id = none) (hn : num l (i, g) = none) :
    Calls Tryd.prog 10 #[.pointer (some ⟨ub, 0, none⟩), .int .i64 id, .agg #[.int .i64 i, .int .i64 g]] W fun e W' => e = .returned (.int .i64 0) ∧ (∃ v', Rb B W' ub v' n (ins (id, i, g) l)) ∧ St (fun k => k = ub) W W' := by
  obtain ⟨w1, hw1⟩ : ∃ w1, w1 = W.alloc (.cells #[.int .i64 i, .int .i64 g] 29) := ⟨_, rfl⟩
  have b1 : Below W.heap.size W w1 := by rw [hw1]; exact bAl _ _
  have r1 : w1.heap[W.heap.size]? = some (.cells #[.int .i64 i, .int .i64 g] 29 (0, 0)) := by rw [hw1]; exact heap_alloc_new W _
  have R1 := hid r1
  have H := hid (h.later b1)
  have c1 := H.out.c1
  have EN : Hid (Calls Tryd.prog 16 #[.pointer (some ⟨ub, 0, none⟩), .int .i64 id] w1 fun e W' => e = .returned (.tuple #[.agg #[.int .i64 0, .int .i64 0], .bool false]) ∧ Below w1.heap.size w1 W') := by
    have := rent_any H.out id (by omega)
    rw [hw] at this
    exact this
  have IDC : Hid (∀ W', Below w1.heap.size w1 W' → Calls Tryd.prog 18 #[.pointer (some ⟨ub, 0, none⟩), .agg #[.int .i64 i, .int .i64 g]] W' fun e w' => e = .returned (.tuple #[.int .i64 0, .bool false]) ∧ Below W'.heap.size W' w') := fun W' hb => by
    have := rid_any (H.out.later hb) i g hi hg h64 (by omega)
    rw [hn] at this
    exact this
  have AD : Hid (∀ W', Below w1.heap.size w1 W' → Calls Tryd.prog 29 #[.pointer (some ⟨ub, 0, none⟩), .int .i64 id, .agg #[.int .i64 i, .int .i64 g]] W' fun e w' => e = .returned (.tuple #[]) ∧ (∃ v', Rb B w' ub v' n (ins (id, i, g) l)) ∧ St (fun k => k = ub) W' w') := fun W' hb => add_any (H.out.later hb) id i g hl
  have h1i : ¬ id < 1 := by omega
  have h2i : ¬ id ≥ n := by omega
  have HW1 := hid hw1
  have B1 := hid b1
  clear h hw1 b1 r1 h64 hi hg hw hn
  go_enter Tryd.func10, Tryd.ntmps10
  go_upto_region 1 with fail
  rw [← HW1.out]
  go_wp2_with fail
  refine EN.out.mono ?_
  rintro e w2 ⟨rfl, hb2⟩
  obtain ⟨w3, hw3⟩ : ∃ w3, w3 = w2.alloc (.cells #[.int .i64 0, .int .i64 0] 29) := ⟨_, rfl⟩
  have b3 : Below w2.heap.size w2 w3 := by rw [hw3]; exact bAl _ _
  have bb3 := hb2.trans (b3.mono hb2.size)
  have B3 := hid bb3
  have ra := blk_seen bb3 (Nat.le_refl _) R1.out
  have y0 : w3.cell? ⟨W.heap.size, 0, none⟩ = some (.int .i64 i) := cell_blk ra rfl
  have y1 : w3.cell? ⟨W.heap.size, 1, none⟩ = some (.int .i64 g) := cell_blk ra rfl
  have IDD := hid (IDC.out w3 bb3)
  have HW3 := hid hw3
  clear EN hb2 b3 bb3 ra hw3 c1
  go_upto_region 4 with fail
  rw [← HW3.out]
  go_wp2_with fail
  refine IDD.out.mono ?_
  rintro e w4 ⟨rfl, hb4⟩
  have bb4 := B3.out.trans (hb4.mono B3.out.size)
  have B4 := hid bb4
  have ra := blk_seen bb4 (Nat.le_refl _) R1.out
  have z0 : w4.cell? ⟨W.heap.size, 0, none⟩ = some (.int .i64 i) := cell_blk ra rfl
  have z1 : w4.cell? ⟨W.heap.size, 1, none⟩ = some (.int .i64 g) := cell_blk ra rfl
  have ADD := hid (AD.out w4 bb4)
  clear IDD hb4 bb4 ra y0 y1
  go_wp2_with fail
  refine ADD.out.mono ?_
  rintro e w5 ⟨rfl, hg5, s5⟩
  have G5 := hid hg5
  have bw := B1.out.trans (B4.out.mono B1.out.size)
  have S5 : Hid (St (fun k => k = ub) W w5) := (St.of_below bw).trans s5 fun x _ q => q
  clear ADD hg5 s5 bw
  go_wp2_with fail
  go_ret
  exact ⟨rfl, G5.out, S5.out⟩
end
end Go.Proofs.YtiebbedpjogjfaaDoor.Bd
