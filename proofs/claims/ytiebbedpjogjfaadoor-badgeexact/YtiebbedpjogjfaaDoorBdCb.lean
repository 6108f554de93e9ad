/- The document's badges: New, Entity, ID. -/
import Derived.Test.YtiebbedpjogjfaaDoorBdCa
import Derived.Test.YtiebbedpjogjfaaDoorBdBj
namespace Go.Proofs.YtiebbedpjogjfaaDoor.Bd
open Go.RowKit Go.Shelf Go.Maps
section
variable {B : Nat} {W W' : World} {v : Value} {l : Prs} {ub : Nat} {n : Int}
set_option maxHeartbeats 800000 in
theorem rnew_any (W : World) : Calls Tryd.prog 6 #[] W fun e W' => ∃ ub v, e = .returned (.pointer (some ⟨ub, 0, none⟩)) ∧ Rb W.heap.size W' ub v 1 [] ∧ Below W.heap.size W W' := by
  obtain ⟨w1, hw1⟩ : ∃ w1, w1 = W.alloc (.cells #[.slice none 0 0, .int .i64 1] 54) := ⟨_, rfl⟩
  have b1 : Below W.heap.size W w1 := by rw [hw1]; exact bAl _ _
  have r1 : w1.heap[W.heap.size]? = some (.cells #[.slice none 0 0, .int .i64 1] 54 (0, 0)) := by rw [hw1]; exact heap_alloc_new W _
  have R : Rb W.heap.size w1 W.heap.size (.slice none 0 0) 1 [] := ⟨r1, ⟨rfl, .inl ⟨rfl, rfl⟩⟩, Nat.le_refl _, by simp [Value.ownBlock]⟩
  have HW1 := hid hw1
  have HR := hid R
  have B1 := hid b1
  clear hw1 b1 r1 R
  go_enter Tryd.func6, Tryd.ntmps6
  go_wp2_with fail
  rw [← HW1.out]
  go_ret
  exact ⟨_, _, rfl, HR.out, B1.out⟩
theorem find_hit {p : Int × Int × Int → Bool} {l : Prs} {k : Nat} {x : Int × Int × Int} (h : (l.take k).find? p = none) (hx : l[k]? = some x) (hp : p x = true) : l.find? p = some x := by
  obtain ⟨hl, rfl⟩ := List.getElem?_eq_some_iff.1 hx
  have e : l = l.take k ++ l[k] :: l.drop (k + 1) := by rw [← List.drop_eq_getElem_cons hl, List.take_append_drop]
  generalize l[k] = x at *
  rw [e, List.find?_append, h, List.find?_cons, hp]
  rfl
theorem find_miss {p : Int × Int × Int → Bool} {l : Prs} {k : Nat} {x : Int × Int × Int} (h : (l.take k).find? p = none) (hx : l[k]? = some x) (hp : p x = false) : (l.take (k + 1)).find? p = none := by
  rw [take_next hx, List.find?_append, h, List.find?_cons, hp]
  rfl
set_option maxHeartbeats 1600000 in
set_option maxRecDepth 100000 in
theorem rent_any (h : Rb B W ub v n l) (id : Int) (hl : l.length ≤ 1000) :
    Calls Tryd.prog 16 #[.pointer (some ⟨ub, 0, none⟩), .int .i64 id] W fun e W' => e = .returned (.tuple #[.agg #[.int .i64 (entO (who l id)).1, .int .i64 (entO (who l id)).2], .bool (who l id).isSome]) ∧ Below W.heap.size W W' := by
  obtain ⟨w1, hw1⟩ : ∃ w1, w1 = W.alloc (.cells #[.int .i64 0, .int .i64 0] 29) := ⟨_, rfl⟩
  have b1 : Below W.heap.size W w1 := by rw [hw1]; exact bAl _ _
  have r1 : w1.heap[W.heap.size]? = some (.cells #[.int .i64 0, .int .i64 0] 29 (0, 0)) := by rw [hw1]; exact heap_alloc_new W _
  have y0 : w1.cell? ⟨W.heap.size, 0, none⟩ = some (.int .i64 0) := cell_blk r1 rfl
  have y1 : w1.cell? ⟨W.heap.size, 1, none⟩ = some (.int .i64 0) := cell_blk r1 rfl
  have f0 := blk_free r1 0
  have f1 := blk_free r1 1
  have H := hid (h.later b1)
  have c0 := H.out.c0
  obtain ⟨a, c, rfl⟩ := h.row.slice
  have hli : (l.length : Int) ≤ 1000 := by omega
  have HW1 := hid hw1
  have B1 := hid b1
  have same : Hid (put2 w1 W.heap.size 0 0 = w1) := put2_same r1
  clear h hw1 b1 r1
  go_enter Tryd.func16, Tryd.ntmps16
  go_upto_region 1 with fail
  rw [← HW1.out]
  go_wp2_with fail
  go_loopg [6] l.length (fun gh i wr => ∃ k : Nat, k ≤ l.length ∧ gh = l.length - k ∧ i = .int .i64 (k : Int) ∧ Hid ((l.take k).find? (fun x => x.1 == id) = none) ∧ wr = w1)
  case atStart => exact ⟨0, Nat.zero_le _, rfl, rfl, by show _ = _; simp, rfl⟩
  case round =>
    obtain ⟨k, hk, rfl, rfl, HK, hq⟩ := hrel
    obtain rfl := hq.symm
    clear hq
    by_cases hlt : k < l.length
    · have hki : (k : Int) < (l.length : Int) := by omega
      obtain ⟨p, hp⟩ := at_lt l k hlt
      obtain ⟨g, rfl, thr⟩ := H.out.row.at hp
      have d0 := thr.c0
      have d1 := thr.c1
      have d2 := thr.c2
      by_cases hc : p.1 = id
      · have E : Hid (who l id = some p.2) := by
          show _ = _
          unfold who
          rw [find_hit HK.out hp (by simp [hc])]
          rfl
        have q : (p.1 == id) = true := by simp [hc]
        clear hc hp thr
        obtain ⟨w4, hw4⟩ : ∃ w4, w4 = (w1.setCell ⟨W.heap.size, 0, none⟩ (.int .i64 p.2.1)).setCell ⟨W.heap.size, 1, none⟩ (.int .i64 p.2.2) := ⟨_, rfl⟩
        have e0 : w4.cell? ⟨W.heap.size, 0, none⟩ = some (.int .i64 p.2.1) := by
          rw [hw4, World.cell?_setCell_other _ _ _ _ (by simp)]
          exact World.cell?_setCell_same _ _ _ y0
        have e1 : w4.cell? ⟨W.heap.size, 1, none⟩ = some (.int .i64 p.2.2) := by
          rw [hw4]
          exact World.cell?_setCell_same _ _ _ (by rw [World.cell?_setCell_other _ _ _ _ (by simp)]; exact y1)
        have B4 : Hid (Below W.heap.size W w4) := by
          rw [hw4]
          have s1 := St.setCell (S := fun k => k = W.heap.size) (a := w1) (p := ⟨W.heap.size, 0, none⟩) (.int .i64 p.2.1) rfl
          have s2 := St.setCell (S := fun k => k = W.heap.size) (a := w1.setCell ⟨W.heap.size, 0, none⟩ (.int .i64 p.2.1)) (p := ⟨W.heap.size, 1, none⟩) (.int .i64 p.2.2) rfl
          exact B1.out.trans ((s1.trans s2 fun x _ q => q).below (B := W.heap.size) (fun k hk => by omega) B1.out.size)
        go_wp2_with fail
        rw [← hw4]
        rw [E.out]
        exact bodyPost_ret (v := .tuple #[.agg #[.int .i64 p.2.1, .int .i64 p.2.2], .bool true]) (by simp [results, Tryd.results16, go_sem, e0, e1]) rfl ⟨rfl, B4.out⟩
      · have E := hid (find_miss HK.out hp (by simp [hc]))
        have q : (p.1 == id) = false := by simp [hc]
        clear hc hp thr
        go_wp2_with fail
        go_roundg (l.length - (k + 1))
        case measure => omega
        case rel => exact ⟨k + 1, by omega, rfl, by go_num, E.out, rfl⟩
    · have hki : ¬ ((k : Int) < (l.length : Int)) := by omega
      have E : Hid (who l id = none) := by
        show _ = _
        unfold who
        rw [← List.take_of_length_le (i := k) (l := l) (by omega), HK.out]
        rfl
      obtain ⟨w4, hw4⟩ : ∃ w4, w4 = (w1.setCell ⟨W.heap.size, 0, none⟩ (.int .i64 0)).setCell ⟨W.heap.size, 1, none⟩ (.int .i64 0) := ⟨_, rfl⟩
      have sm : Hid (w4 = w1) := by
        rw [hw4]
        exact same.out
      go_wp2_with fail
      rw [← hw4, sm.out]
      rw [E.out]
      exact bodyPost_ret (v := .tuple #[.agg #[.int .i64 0, .int .i64 0], .bool false]) (by simp [results, Tryd.results16, go_sem, y0, y1]) rfl ⟨rfl, B1.out⟩
end
end Go.Proofs.YtiebbedpjogjfaaDoor.Bd
