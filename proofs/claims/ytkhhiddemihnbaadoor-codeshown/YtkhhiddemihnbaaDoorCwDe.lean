/- The laws' schema, with its rows' blocks. -/
import Derived.Test.YtkhhiddemihnbaaDoorCwDa
namespace Go.Proofs.YtkhhiddemihnbaaDoor.Cw
open Go.RowKit Go.Shelf
set_option maxHeartbeats 3200000 in
set_option maxRecDepth 100000 in
theorem plain_own (W : World) : Calls Tryd.prog 22 #[] W fun e W' => ∃ va qb, e = .returned (.agg #[va, vQ qb]) ∧ Cmps W.heap.size W' va (plainC true) ∧ W'.heap[qb]? = some (.cells aQ 98 (0, 0)) ∧ Below W.heap.size W W' := by
  obtain ⟨w1, hw1⟩ : ∃ w1, w1 = ((W.alloc (.cells #[.slice none 0 0, .slice none 0 0] 39)).alloc (.cells aQ 98)).alloc (.cells #[.slice none 0 0, vQ (W.heap.size + 1)] 39) := ⟨_, rfl⟩
  obtain ⟨b1, r1, t1, p1⟩ := three_blk W #[.slice none 0 0, .slice none 0 0] aQ #[.slice none 0 0, vQ (W.heap.size + 1)] 39 98 39
  have z1 : w1.heap.size = W.heap.size + 3 := by rw [hw1]; simp
  rw [← hw1] at b1 r1 t1 p1
  have N0 : Hid (Wi W w1 (plL 0) (.slice none 0 0) w1) := ⟨p1, World.ownsRow_nil _ _ _ _, St.of_below (Below.refl _ _)⟩
  have HW1 := hid hw1
  have B1 := hid b1
  have R1 := hid r1
  have T1 := hid t1
  clear hw1 b1 r1 t1 p1
  go_enter Tryd.func22, Tryd.ntmps22
  go_upto_region 2 with fail
  rw [← HW1.out]
  go_wp2_with fail
  go_loopg [2] 4 (fun gh i wr => ∃ k : Nat, k ≤ 4 ∧ gh = 4 - k ∧ i = .int .i64 (k : Int) ∧ ∃ lv, Hid (Wi W w1 (plL k) lv wr))
  case atStart => exact ⟨0, Nat.zero_le _, rfl, rfl, _, N0.out⟩
  case round =>
    obtain ⟨k, hk, rfl, rfl, lv, HN⟩ := hrel
    by_cases hlt : k < 4
    · have hki : (k : Int) < 4 := by omega
      have hk0 : (0 : Int) ≤ (k : Int) := by omega
      obtain ⟨l, hl⟩ : ∃ l, l = plL k := ⟨_, rfl⟩
      rw [← hl] at HN
      have hl9 : l.length ≤ 1000 := by rw [hl]; simp [plL]; omega
      obtain ⟨oa, oc, rfl⟩ : ∃ a c, lv = .slice a l.length c := own_slice HN.out.row
      have BOX := hid HN.out.box
      have ROW := hid HN.out.row
      have y0 : wr.cell? ⟨W.heap.size + 1 + 1, 0, none⟩ = some (.slice oa l.length oc) := cell_blk BOX.out rfl
      have hne : (Value.slice oa l.length oc).ownBlock ≠ some (W.heap.size + 1 + 1) := fun e => by have := (World.ownsRow.lt ROW.out _ e).1; omega
      have hB6 : w1.heap.size ≤ wr.heap.size := HN.out.st.size
      have htn : ¬ (W.heap.size + 1 + 1 = wr.heap.size) := by omega
      have htw : W.heap.size + 1 + 1 < wr.heap.size := by omega
      have HL := hid hl
      clear hl
      have hsl := sub_name k hlt
      go_wp2_with fail
      go_region_law (refine step_cmp (c := plC k) rfl _ _ rfl ROW.out hl9 hB6 BOX.out rfl hne rfl rfl ?_; intro g' cap w7 hg hx7 hf7)
      all_goals
        obtain ⟨q1, q2, q3⟩ := hg.out
        have s1 := St.setCell (S := fun k => k = W.heap.size + 1 + 1) (a := w7) (p := ⟨W.heap.size + 1 + 1, 0, none⟩) (.slice (some ⟨g', 0, none⟩) (l.length + 1) cap) rfl
        have NX : Hid (Wi W w1 (plL (k + 1)) (.slice (some ⟨g', 0, none⟩) (l.length + 1) cap) (w7.setCell ⟨W.heap.size + 1 + 1, 0, none⟩ (.slice (some ⟨g', 0, none⟩) (l.length + 1) cap))) := by
          have e : plL (k + 1) = l ++ [plC k] := by rw [HL.out]; unfold plL; rw [List.range_succ, List.map_append]; rfl
          refine ⟨?_, ?_, ?_⟩
          · have := heap_setCell_same w7 (W.heap.size + 1 + 1) 0 _ _ (.slice (some ⟨g', 0, none⟩) (l.length + 1) cap) q2
            simpa using this
          · rw [e]
            exact own_kept q1 s1 fun y hy e => by have := (World.ownsRow.lt q1 y hy).1; omega
          · exact (HN.out.st.trans q3 fun y hy e => by have := (World.ownsRow.lt ROW.out y e).1; omega).trans s1 fun _ _ q => q
        clear hx7 hf7 q1 q2 q3 s1 hg
        go_wp2_with fail
        go_roundg (4 - (k + 1))
        case measure => omega
        case rel => exact ⟨k + 1, by omega, rfl, by go_num, _, NX.out⟩
    · have hki : ¬ ((k : Int) < 4) := by omega
      obtain rfl : k = 4 := by omega
      obtain ⟨L, hL⟩ : ∃ L, L = plL 4 := ⟨_, rfl⟩
      have hN := HN.out
      rw [← hL] at hN
      have HL := hid hL
      clear hL
      obtain ⟨oa, oc, rfl⟩ : ∃ a c, lv = .slice a L.length c := own_slice hN.row
      have y0 : wr.cell? ⟨W.heap.size + 1 + 1, 0, none⟩ = some (.slice oa L.length oc) := cell_blk hN.box rfl
      have y1 : wr.cell? ⟨W.heap.size + 1 + 1, 1, none⟩ = some (vQ (W.heap.size + 1)) := cell_blk hN.box rfl
      have r8 := hN.st.at R1.out (by omega)
      have x0 : wr.cell? ⟨W.heap.size, 0, none⟩ = some (.slice none 0 0) := cell_blk r8 rfl
      have x1 : wr.cell? ⟨W.heap.size, 1, none⟩ = some (.slice none 0 0) := cell_blk r8 rfl
      have f0 := blk_free r8 0
      have f1 := blk_free r8 1
      have h1 := heap_setCell_same wr W.heap.size 0 _ _ (.slice oa L.length oc) r8
      have h2 := heap_setCell_same _ W.heap.size 1 _ _ (vQ (W.heap.size + 1)) h1
      have c := fun (w : World) (j : Nat) (v : Value) => St.setCell (S := fun k => k = W.heap.size) (a := w) (p := ⟨W.heap.size, j, none⟩) v rfl
      have s2 := (c wr 0 (.slice oa L.length oc)).trans (c _ 1 (vQ (W.heap.size + 1))) fun _ _ q => q
      have CR : Hid (Cmps W.heap.size ((wr.setCell ⟨W.heap.size, 0, none⟩ (.slice oa L.length oc)).setCell ⟨W.heap.size, 1, none⟩ (vQ (W.heap.size + 1))) (.slice oa L.length oc) L) := by
        show World.ownsRow _ _ _ _ _ _ _
        have h := own_kept hN.row s2 fun y hy e => by have := (World.ownsRow.lt hN.row y hy).1; omega
        exact ⟨h.1, h.2.imp id fun ⟨g, cap, cur, h1, h2, h3⟩ => ⟨g, cap, cur, h1, by omega, h3⟩⟩
      have t8 := hN.st.at T1.out (by omega)
      have TR : Hid (((wr.setCell ⟨W.heap.size, 0, none⟩ (.slice oa L.length oc)).setCell ⟨W.heap.size, 1, none⟩ (vQ (W.heap.size + 1))).heap[W.heap.size + 1]? = some (.cells aQ 98 (0, 0))) := s2.at t8 (by omega)
      have BB := hid ((B1.out.trans (hN.st.below (B := W.heap.size) (fun q hq => by omega) (by omega))).trans (s2.below (B := W.heap.size) (fun q hq => by omega) (by have := hN.st.size; omega)))
      have H2 := hid h2
      clear hN h1 h2 c s2 r8 t8
      go_wp2_with fail
      generalize (wr.setCell ⟨W.heap.size, 0, none⟩ (.slice oa L.length oc)).setCell ⟨W.heap.size, 1, none⟩ (vQ (W.heap.size + 1)) = w9 at *
      have d0 : w9.cell? ⟨W.heap.size, 0, none⟩ = some (.slice oa L.length oc) := cell_blk H2.out rfl
      have d1 : w9.cell? ⟨W.heap.size, 1, none⟩ = some (vQ (W.heap.size + 1)) := cell_blk H2.out rfl
      exact bodyPost_ret (v := .agg #[.slice oa L.length oc, vQ (W.heap.size + 1)]) (by simp [results, Tryd.results22, go_sem, d0, d1]) rfl ⟨_, _, rfl, by rw [← pl_all, ← HL.out]; exact CR.out, TR.out, BB.out⟩
end Go.Proofs.YtkhhiddemihnbaaDoor.Cw
