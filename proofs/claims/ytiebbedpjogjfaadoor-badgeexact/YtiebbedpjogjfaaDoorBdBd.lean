/- Badges: New, Next, Len, Entity, ID, unowned, join. -/
import Derived.Test.YtiebbedpjogjfaaDoorBdBc
namespace Go.Proofs.YtiebbedpjogjfaaDoor.Bd
open Go.RowKit Go.Shelf Go.Maps
section
variable {Ad : Nat → Addr} {B : Nat} {W : World} {bb ob nb : Nat} {n : Int} {l : Prs}
set_option maxHeartbeats 1600000 in
set_option maxRecDepth 100000 in
theorem new_any (W : World) : Calls Tryd.prog 5 #[] W fun e W' => ∃ bb ob nb, e = .returned (.pointer (some ⟨bb, 0, none⟩)) ∧ Bg W.heap.size W' bb ob nb 1 [] ∧ Below W.heap.size W W' := by
  have hmm := @run_makeMap Tryd.prog
  go_enter Tryd.func5, Tryd.ntmps5
  go_wp2_with fail
  have e1 : (W.alloc (.map #[] 0)).heap.size = W.heap.size + 1 := by simp
  have e2 : ((W.alloc (.map #[] 0)).alloc (.map #[] 0)).heap.size = W.heap.size + 2 := by simp
  have b1 := bAl W (.map #[] 0)
  have b2 := bAl (W.alloc (.map #[] 0)) (.map #[] 0)
  have b3 := bAl ((W.alloc (.map #[] 0)).alloc (.map #[] 0)) (.cells #[.map (some W.heap.size), .map (some (W.heap.size + 1)), .int .i64 1] 63)
  have m1 := (m1_made W).kept (T := fun _ => False) (St.of_below b2) fun q => q
  have m1 := m1.kept (T := fun _ => False) (St.of_below b3) fun q => q
  have m2 := (m2_made (W.alloc (.map #[] 0))).kept (T := fun _ => False) (St.of_below b3) fun q => q
  have bx := heap_alloc_new ((W.alloc (.map #[] 0)).alloc (.map #[] 0)) (.cells #[.map (some W.heap.size), .map (some (W.heap.size + 1)), .int .i64 1] 63)
  rw [e1] at m2
  rw [e2] at bx
  have G : Bg W.heap.size (((W.alloc (.map #[] 0)).alloc (.map #[] 0)).alloc (.cells #[.map (some W.heap.size), .map (some (W.heap.size + 1)), .int .i64 1] 63)) (W.heap.size + 2) W.heap.size (W.heap.size + 1) 1 [] := ⟨bx, m1, m2, okP.nil, by omega, by omega⟩
  have bb := b1.trans ((b2.trans (b3.mono b2.size)).mono b1.size)
  go_ret
  exact ⟨_, _, _, rfl, G, bb⟩
set_option maxHeartbeats 800000 in
theorem next_any (h : Bg B W bb ob nb n l) : Calls Tryd.prog 20 #[.pointer (some ⟨bb, 0, none⟩)] W fun e W' => e = .returned (.int .i64 n) ∧ W' = W := by
  have c2 := h.c2
  clear h
  go_enter Tryd.func20, Tryd.ntmps20
  go_wp2_with fail
  go_ret
  exact ⟨rfl, rfl⟩
set_option maxHeartbeats 800000 in
theorem next_nil (W : World) : Calls Tryd.prog 20 #[.pointer none] W fun e W' => e = .returned (.int .i64 0) ∧ W' = W := by
  go_enter Tryd.func20, Tryd.ntmps20
  go_wp2_with fail
  go_ret
  exact ⟨rfl, rfl⟩
set_option maxHeartbeats 800000 in
theorem len_any (h : Bg B W bb ob nb n l) : Calls Tryd.prog 21 #[.pointer (some ⟨bb, 0, none⟩)] W fun e W' => e = .returned (.int .i64 (l.length : Int)) ∧ W' = W := by
  have c0 := h.c0
  have hl := fun ty => h.m1.len und1 ty
  clear h
  go_enter Tryd.func21, Tryd.ntmps21
  go_wp2_with fail
  go_ret
  exact ⟨rfl, rfl⟩
set_option maxHeartbeats 800000 in
theorem len_nil (W : World) : Calls Tryd.prog 21 #[.pointer none] W fun e W' => e = .returned (.int .i64 0) ∧ W' = W := by
  go_enter Tryd.func21, Tryd.ntmps21
  go_wp2_with fail
  go_ret
  exact ⟨rfl, rfl⟩
set_option maxHeartbeats 1600000 in
set_option maxRecDepth 100000 in
theorem id_any (h : Bg B W bb ob nb n l) (i g : Int) (hi : I64 i) (hg : I64 g) :
    Calls Tryd.prog 17 #[.pointer (some ⟨bb, 0, none⟩), .agg #[.int .i64 i, .int .i64 g]] W fun e W' => e = .returned (.tuple #[.int .i64 ((num l (i, g)).getD 0), .bool (num l (i, g)).isSome]) ∧ Below W.heap.size W W' := by
  obtain ⟨w1, hw1⟩ : ∃ w1, w1 = W.alloc (.cells #[.int .i64 i, .int .i64 g] 29) := ⟨_, rfl⟩
  have b1 : Below W.heap.size W w1 := by rw [hw1]; exact bAl _ _
  have r1 : w1.heap[W.heap.size]? = some (.cells #[.int .i64 i, .int .i64 g] 29 (0, 0)) := by rw [hw1]; exact heap_alloc_new W _
  have KK : Hid (∀ W', Below w1.heap.size w1 W' → Rd W' bb nb W.heap.size i g ((num l (i, g)).getD 0) (num l (i, g)).isSome) := fun W' hb => ((h.later b1).later hb).rd i g hi hg (blk_seen hb (Nat.le_refl _) r1)
  have HW1 := hid hw1
  have B1 := hid b1
  generalize (num l (i, g)).getD 0 = x at *
  generalize (num l (i, g)).isSome = r at *
  unfold Rd at KK
  clear h hi hg hw1 b1 r1
  go_enter Tryd.func17, Tryd.ntmps17
  go_upto_region 3 with fail
  rw [← HW1.out]
  go_region_held3 (fun W' => W'.cell? ⟨bb, 1, none⟩ = some (.map (some nb)) ∧ W'.cell? ⟨W.heap.size, 0, none⟩ = some (.int .i64 i) ∧ W'.cell? ⟨W.heap.size, 1, none⟩ = some (.int .i64 g) ∧ (Instr.lookup 61 (.map (some nb)) (.agg #[.int .i64 i, .int .i64 g]) true).run Tryd.prog W' = .ok (.tuple #[.int .i64 x, .bool r]) W')
    (first | exact KK.out _ (Below.refl _ _).drew | exact KK.out _ (Below.refl _ _)) (fail)
  have BF : Hid (Below W.heap.size W w1.drew) := B1.out.drew
  go_wp2_with fail
  exact bodyPost_ret (v := .tuple #[.int .i64 x, .bool r]) (by simp [results, Tryd.results17, go_sem]) rfl ⟨rfl, BF.out⟩
set_option maxHeartbeats 1600000 in
set_option maxRecDepth 100000 in
theorem ent_any (h : Bg B W bb ob nb n l) (id : Int) (hi : I64 id) :
    Calls Tryd.prog 15 #[.pointer (some ⟨bb, 0, none⟩), .int .i64 id] W fun e W' => e = .returned (.tuple #[.agg #[.int .i64 (entO (who l id)).1, .int .i64 (entO (who l id)).2], .bool (who l id).isSome]) ∧ Below W.heap.size W W' := by
  obtain ⟨w1, hw1⟩ : ∃ w1, w1 = W.alloc (.cells #[.int .i64 0, .int .i64 0] 29) := ⟨_, rfl⟩
  have b1 : Below W.heap.size W w1 := by rw [hw1]; exact bAl _ _
  have r1 : w1.heap[W.heap.size]? = some (.cells #[.int .i64 0, .int .i64 0] 29 (0, 0)) := by rw [hw1]; exact heap_alloc_new W _
  have h1 := h.later b1
  have c0 := h1.c0
  have lk := h1.m1.look und1 id hi
  have HW1 := hid hw1
  generalize entO (who l id) = x at *
  generalize (who l id).isSome = r at *
  obtain ⟨a, b⟩ := x
  obtain ⟨w2, hw2⟩ : ∃ w2, w2 = w1.alloc (.cells #[.int .i64 a, .int .i64 b] 29) := ⟨_, rfl⟩
  have b2 : Below w1.heap.size w1 w2 := by rw [hw2]; exact bAl _ _
  have r2 : w2.heap[w1.heap.size]? = some (.cells #[.int .i64 a, .int .i64 b] 29 (0, 0)) := by rw [hw2]; exact heap_alloc_new w1 _
  have x0 : w2.cell? ⟨w1.heap.size, 0, none⟩ = some (.int .i64 a) := cell_blk r2 rfl
  have x1 : w2.cell? ⟨w1.heap.size, 1, none⟩ = some (.int .i64 b) := cell_blk r2 rfl
  have r1' := blk_seen b2 (Nat.le_refl _) r1
  have y0 : w2.cell? ⟨W.heap.size, 0, none⟩ = some (.int .i64 0) := cell_blk r1' rfl
  have y1 : w2.cell? ⟨W.heap.size, 1, none⟩ = some (.int .i64 0) := cell_blk r1' rfl
  have f0 := blk_free r1' 0
  have f1 := blk_free r1' 1
  have HW2 := hid hw2
  have R1 := hid r1'
  have B2 := hid (b1.trans (b2.mono b1.size))
  clear h h1 hi hw1 hw2 b1 b2 r1 r2 r1'
  go_enter Tryd.func15, Tryd.ntmps15
  go_upto_region 1 with fail
  rw [← HW1.out]
  go_upto_region 4 with fail
  rw [← HW2.out]
  go_wp2_with fail
  have s1 := St.setCell (S := fun k => k = W.heap.size) (a := w2) (p := ⟨W.heap.size, 0, none⟩) (.int .i64 a) rfl
  have s2 := St.setCell (S := fun k => k = W.heap.size) (a := w2.setCell ⟨W.heap.size, 0, none⟩ (.int .i64 a)) (p := ⟨W.heap.size, 1, none⟩) (.int .i64 b) rfl
  have s3 := s1.trans s2 fun x _ q => q
  have B3 := B2.out.trans (s3.below (B := W.heap.size) (fun k hk => by omega) B2.out.size)
  have e0 : ((w2.setCell ⟨W.heap.size, 0, none⟩ (.int .i64 a)).setCell ⟨W.heap.size, 1, none⟩ (.int .i64 b)).cell? ⟨W.heap.size, 0, none⟩ = some (.int .i64 a) := by
    rw [World.cell?_setCell_other _ _ _ _ (by simp)]
    exact World.cell?_setCell_same _ _ _ y0
  have e1 : ((w2.setCell ⟨W.heap.size, 0, none⟩ (.int .i64 a)).setCell ⟨W.heap.size, 1, none⟩ (.int .i64 b)).cell? ⟨W.heap.size, 1, none⟩ = some (.int .i64 b) :=
    World.cell?_setCell_same _ _ _ (by rw [World.cell?_setCell_other _ _ _ _ (by simp)]; exact y1)
  exact bodyPost_ret (v := .tuple #[.agg #[.int .i64 a, .int .i64 b], .bool r]) (by simp [results, Tryd.results15, go_sem, e0, e1]) rfl ⟨rfl, B3⟩
end
end Go.Proofs.YtiebbedpjogjfaaDoor.Bd
