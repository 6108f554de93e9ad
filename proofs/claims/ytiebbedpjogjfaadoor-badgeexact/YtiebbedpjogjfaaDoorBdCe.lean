/- The document's badges: Drop. -/
import Derived.Test.YtiebbedpjogjfaaDoorBdCd
namespace Go.Proofs.YtiebbedpjogjfaaDoor.Bd
open Go.RowKit Go.Shelf Go.Maps
section
variable {B : Nat} {W W' : World} {v : Value} {l : Prs} {ub : Nat} {n : Int}
set_option maxHeartbeats 3200000 in
set_option maxRecDepth 100000 in
theorem rdrop_none (h : Rb B W ub v n l) (id : Int) (hl : l.length ≤ 900) (hw : who l id = none) :
    Calls Tryd.prog 12 #[.pointer (some ⟨ub, 0, none⟩), .int .i64 id] W fun e W' => e = .returned (.tuple #[.agg #[.int .i64 0, .int .i64 0], .int .i64 7]) ∧ Below W.heap.size W W' := by
  obtain ⟨w1, hw1⟩ : ∃ w1, w1 = W.alloc (.cells #[.int .i64 0, .int .i64 0] 29) := ⟨_, rfl⟩
  have b1 : Below W.heap.size W w1 := by rw [hw1]; exact bAl _ _
  have r1 : w1.heap[W.heap.size]? = some (.cells #[.int .i64 0, .int .i64 0] 29 (0, 0)) := by rw [hw1]; exact heap_alloc_new W _
  have EN : Hid (Calls Tryd.prog 16 #[.pointer (some ⟨ub, 0, none⟩), .int .i64 id] w1 fun e W' => e = .returned (.tuple #[.agg #[.int .i64 0, .int .i64 0], .bool false]) ∧ Below w1.heap.size w1 W') := by
    have := rent_any (h.later b1) id (by omega)
    rw [hw] at this
    exact this
  have HW1 := hid hw1
  have B1 := hid b1
  have R1 := hid r1
  clear h hw1 b1 r1 hw
  go_enter Tryd.func12, Tryd.ntmps12
  go_upto_region 1 with fail
  rw [← HW1.out]
  go_wp2_with fail
  refine EN.out.mono ?_
  rintro e w2 ⟨rfl, hb2⟩
  obtain ⟨w3, hw3⟩ : ∃ w3, w3 = w2.alloc (.cells #[.int .i64 0, .int .i64 0] 29) := ⟨_, rfl⟩
  have b3 : Below w2.heap.size w2 w3 := by rw [hw3]; exact bAl _ _
  have r3 : w3.heap[w2.heap.size]? = some (.cells #[.int .i64 0, .int .i64 0] 29 (0, 0)) := by rw [hw3]; exact heap_alloc_new w2 _
  have x0 : w3.cell? ⟨w2.heap.size, 0, none⟩ = some (.int .i64 0) := cell_blk r3 rfl
  have x1 : w3.cell? ⟨w2.heap.size, 1, none⟩ = some (.int .i64 0) := cell_blk r3 rfl
  have r1 := blk_seen b3 (Nat.le_refl _) (blk_seen hb2 (Nat.le_refl _) R1.out)
  have y0 : w3.cell? ⟨W.heap.size, 0, none⟩ = some (.int .i64 0) := cell_blk r1 rfl
  have y1 : w3.cell? ⟨W.heap.size, 1, none⟩ = some (.int .i64 0) := cell_blk r1 rfl
  have f0 := blk_free r1 0
  have f1 := blk_free r1 1
  have bb2 := B1.out.trans (hb2.mono B1.out.size)
  have B3 := hid (bb2.trans (b3.mono bb2.size))
  obtain ⟨w4, hw4⟩ : ∃ w4, w4 = (w3.setCell ⟨W.heap.size, 0, none⟩ (.int .i64 0)).setCell ⟨W.heap.size, 1, none⟩ (.int .i64 0) := ⟨_, rfl⟩
  have same : Hid (w4 = w3) := by
    rw [hw4]
    show put2 w3 W.heap.size 0 0 = w3
    exact put2_same r1
  have HW3 := hid hw3
  clear EN hb2 hw3 b3 r3 r1 bb2
  go_upto_region 2 with fail
  rw [← HW3.out]
  go_wp2_with fail
  rw [← hw4, same.out]
  exact bodyPost_ret (v := .tuple #[.agg #[.int .i64 0, .int .i64 0], .int .i64 7]) (by simp [results, Tryd.results12, go_sem, y0, y1]) rfl ⟨rfl, B3.out⟩
set_option maxHeartbeats 3200000 in
set_option maxRecDepth 100000 in
theorem rdrop_some (h : Rb B W ub v n l) (id : Int) (hl : l.length ≤ 900) {i g : Int} (hw : who l id = some (i, g)) :
    Calls Tryd.prog 12 #[.pointer (some ⟨ub, 0, none⟩), .int .i64 id] W fun e W' => e = .returned (.tuple #[.agg #[.int .i64 i, .int .i64 g], .int .i64 0]) ∧ (∃ v', Rb B W' ub v' n (del id l)) ∧ St (fun k => k = ub) W W' := by
  obtain ⟨w1, hw1⟩ : ∃ w1, w1 = W.alloc (.cells #[.int .i64 0, .int .i64 0] 29) := ⟨_, rfl⟩
  have b1 : Below W.heap.size W w1 := by rw [hw1]; exact bAl _ _
  have r1 : w1.heap[W.heap.size]? = some (.cells #[.int .i64 0, .int .i64 0] 29 (0, 0)) := by rw [hw1]; exact heap_alloc_new W _
  have EN : Hid (Calls Tryd.prog 16 #[.pointer (some ⟨ub, 0, none⟩), .int .i64 id] w1 fun e W' => e = .returned (.tuple #[.agg #[.int .i64 i, .int .i64 g], .bool true]) ∧ Below w1.heap.size w1 W') := by
    have := rent_any (h.later b1) id (by omega)
    rw [hw] at this
    exact this
  have H0 := hid h
  obtain ⟨a, c, rfl⟩ := h.row.slice
  have hli : (l.length : Int) ≤ 900 := by omega
  have HW1 := hid hw1
  have B1 := hid b1
  have R1 := hid r1
  clear h hw1 b1 r1 hw
  go_enter Tryd.func12, Tryd.ntmps12
  go_upto_region 1 with fail
  rw [← HW1.out]
  go_wp2_with fail
  refine EN.out.mono ?_
  rintro e w2 ⟨rfl, hb2⟩
  obtain ⟨w3, hw3⟩ : ∃ w3, w3 = w2.alloc (.cells #[.int .i64 i, .int .i64 g] 29) := ⟨_, rfl⟩
  have b3 : Below w2.heap.size w2 w3 := by rw [hw3]; exact bAl _ _
  have r3 : w3.heap[w2.heap.size]? = some (.cells #[.int .i64 i, .int .i64 g] 29 (0, 0)) := by rw [hw3]; exact heap_alloc_new w2 _
  have R13 := hid (blk_seen b3 (Nat.le_refl _) (blk_seen hb2 (Nat.le_refl _) R1.out))
  have R3 := hid r3
  have bb2 := B1.out.trans (hb2.mono B1.out.size)
  have B3 := hid (bb2.trans (b3.mono bb2.size))
  have H := hid (H0.out.later B3.out)
  obtain ⟨w4, hw4⟩ : ∃ w4, w4 = w3.alloc (.cells #[] 70) := ⟨_, rfl⟩
  have I4 : Hid (Pairs w3.heap.size w4 (.slice (some ⟨w3.heap.size, 0, none⟩) 0 0) []) := by rw [hw4]; exact pairs_none w3
  have B4 : Hid (Below w3.heap.size w3 w4) := by rw [hw4]; exact bAl _ _
  have HW3 := hid hw3
  have HW4 := hid hw4
  have hsz := hid hb2.size
  have hlt1 : W.heap.size < w3.heap.size := (Array.getElem?_eq_some_iff.1 R13.out).1
  clear EN hb2 hw3 b3 r3 bb2 R1 hw4
  go_upto_region 2 with fail
  rw [← HW3.out]
  go_upto_region 5 with fail
  rw [← HW4.out]
  go_wp2_with fail
  go_loopg [8, 9] l.length (fun gh o ix wr => ∃ (k : Nat), k ≤ l.length ∧ gh = l.length - k ∧ ix = .int .i64 (k : Int) ∧ Hid (Pairs w3.heap.size wr o (del id (l.take k))) ∧ Hid (Below w3.heap.size w3 wr))
  case atStart => exact ⟨0, Nat.zero_le _, rfl, rfl, by rw [List.take_zero]; exact I4.out, B4.out⟩
  case round =>
    clear I4
    rename World => wr
    obtain ⟨k, hk, rfl, rfl, HP, HB⟩ := hrel
    have hul : (del id (l.take k)).length ≤ 1000 := by
      have h1 := List.length_filter_le (fun x : Int × Int × Int => !(x.1 == id)) (l.take k)
      have h2 : (l.take k).length ≤ l.length := by simp; omega
      unfold del
      omega
    have hw1 : w3.heap.size ≤ wr.heap.size := HB.out.size
    have HR := hid (H.out.later HB.out)
    have c0 := HR.out.c0
    obtain ⟨q, hq⟩ : ∃ q, q = del id (l.take k) := ⟨_, rfl⟩
    rw [← hq] at HP hul
    have HQ := hid hq
    clear hq
    obtain ⟨oa, oc, rfl⟩ := HP.out.slice
    by_cases hlt : k < l.length
    · have hki : (k : Int) < (l.length : Int) := by omega
      obtain ⟨x, hx⟩ := at_lt l k hlt
      obtain ⟨b, rfl, thr⟩ := HR.out.row.at hx
      obtain ⟨d0, d1, d2⟩ := thr
      by_cases hc : x.1 = id
      · have E : Hid (del id (l.take (k + 1)) = q) := by
          show _ = _
          rw [take_next hx, HQ.out]
          unfold del
          rw [List.filter_append]
          simp [hc]
        have q1 : (x.1 == id) = true := by simp [hc]
        clear hc hx
        go_wp2_with fail
        go_roundg (l.length - (k + 1))
        case measure => omega
        case rel => exact ⟨k + 1, by omega, rfl, by go_num, by rw [E.out]; exact HP.out, HB.out⟩
      · have E : Hid (del id (l.take (k + 1)) = q ++ [x]) := by
          show _ = _
          rw [take_next hx, HQ.out]
          unfold del
          rw [List.filter_append]
          simp [hc]
        have q1 : (x.1 == id) = false := by simp [hc]
        clear hc hx
        go_wp2_with (at_builtin; refine wpList_pair (p := x) rfl _ _ rfl HP.out hul (by exact hw1) rfl rfl ?_; intro v' w5 ho hst)
        have B5 := hid (bel_app HB.out HP.out hst.out)
        go_roundg (l.length - (k + 1))
        case measure => omega
        case rel => exact ⟨k + 1, by omega, rfl, by go_num, by rw [E.out]; exact ho.out, B5.out⟩
    · have hki : ¬ ((k : Int) < (l.length : Int)) := by omega
      have E : Hid (del id l = q) := by
        show _ = _
        rw [HQ.out, List.take_of_length_le (by omega)]
      have fz := blk_free HR.out.box 0
      have hub : ub < W.heap.size := (H0.out.lt ub (.inl rfl)).2
      obtain ⟨w5, hw5⟩ : ∃ w5, w5 = wr.setCell ⟨ub, 0, none⟩ (.slice oa q.length oc) := ⟨_, rfl⟩
      have RN := H0.out.renew B3.out HB.out HP.out
      rw [← hw5] at RN
      have s5 : St (fun k => k = ub) wr w5 := by rw [hw5]; exact St.setCell _ rfl
      have hl2 : w2.heap.size < w3.heap.size := (Array.getElem?_eq_some_iff.1 R3.out).1
      have hge2 : W.heap.size ≤ w2.heap.size := by
        have := B1.out.size
        have : w1.heap.size ≤ w2.heap.size := hsz.out
        omega
      have ra := s5.at (blk_seen HB.out (Nat.le_refl _) R13.out) (fun e => by omega)
      have rb := s5.at (blk_seen HB.out (Nat.le_refl _) R3.out) (fun e => by omega)
      have x0 : w5.cell? ⟨w2.heap.size, 0, none⟩ = some (.int .i64 i) := cell_blk rb rfl
      have x1 : w5.cell? ⟨w2.heap.size, 1, none⟩ = some (.int .i64 g) := cell_blk rb rfl
      have y0 : w5.cell? ⟨W.heap.size, 0, none⟩ = some (.int .i64 0) := cell_blk ra rfl
      have y1 : w5.cell? ⟨W.heap.size, 1, none⟩ = some (.int .i64 0) := cell_blk ra rfl
      have f0 := blk_free ra 0
      have f1 := blk_free ra 1
      obtain ⟨w6, hw6⟩ : ∃ w6, w6 = (w5.setCell ⟨W.heap.size, 0, none⟩ (.int .i64 i)).setCell ⟨W.heap.size, 1, none⟩ (.int .i64 g) := ⟨_, rfl⟩
      have e0 : w6.cell? ⟨W.heap.size, 0, none⟩ = some (.int .i64 i) := by
        rw [hw6, World.cell?_setCell_other _ _ _ _ (by simp)]
        exact World.cell?_setCell_same _ _ _ y0
      have e1 : w6.cell? ⟨W.heap.size, 1, none⟩ = some (.int .i64 g) := by
        rw [hw6]
        exact World.cell?_setCell_same _ _ _ (by rw [World.cell?_setCell_other _ _ _ _ (by simp)]; exact y1)
      have s6 : St (fun k => k = W.heap.size) w5 w6 := by
        rw [hw6]
        exact (St.setCell (S := fun k => k = W.heap.size) (a := w5) (p := ⟨W.heap.size, 0, none⟩) (.int .i64 i) rfl).trans (St.setCell (S := fun k => k = W.heap.size) (a := w5.setCell ⟨W.heap.size, 0, none⟩ (.int .i64 i)) (p := ⟨W.heap.size, 1, none⟩) (.int .i64 g) rfl) fun x _ q => q
      have G6 : Hid (Rb B w6 ub (.slice oa q.length oc) n q) := RN.1.kept s6 fun k hk e => by
        rcases hk with rfl | hk
        · omega
        · have := (HP.out.lt k hk).1
          omega
      have S6 : Hid (St (fun k => k = ub) W w6) := RN.2.trans s6 fun x hx e => by omega
      have HW5 := hid hw5
      clear RN s5 s6 ra rb hw5
      go_upto_region 11 with fail
      rw [← HW5.out]
      go_wp2_with fail
      rw [← hw6]
      exact bodyPost_ret (v := .tuple #[.agg #[.int .i64 i, .int .i64 g], .int .i64 0]) (by simp [results, Tryd.results12, go_sem, e0, e1]) rfl ⟨rfl, ⟨_, by rw [E.out]; exact G6.out⟩, S6.out⟩
end
end Go.Proofs.YtiebbedpjogjfaaDoor.Bd
