/- awake: the walk. -/
import Derived.Test.YtmekfiafdjdopaaDoorUc
namespace Go.Proofs.YtmekfiafdjdopaaDoor
open Go.RowKit Go.Shelf
theorem rowAB (W W' : World) (hb : Below (W.alloc (.cells #[.string bPos, .int .i64 2, .bool true, .int .i64 0, .int .i64 0, .int .i64 0, .int .i64 0, .string bPos, .int .i64 9, .bool false, .int .i64 0, .int .i64 0, .int .i64 0, .int .i64 0] 47)).heap.size (W.alloc (.cells #[.string bPos, .int .i64 2, .bool true, .int .i64 0, .int .i64 0, .int .i64 0, .int .i64 0, .string bPos, .int .i64 9, .bool false, .int .i64 0, .int .i64 0, .int .i64 0, .int .i64 0] 47)) W') : CmpRow W' (.slice (some ⟨W.heap.size, 0, none⟩) 2 2) [cA, cB] := by
  have R := fun (j : Nat) (u : Value) (h : [Value.string bPos, .int .i64 2, .bool true, .int .i64 0, .int .i64 0, .int .i64 0, .int .i64 0, .string bPos, .int .i64 9, .bool false, .int .i64 0, .int .i64 0, .int .i64 0, .int .i64 0][j]? = some u) => Below.seen hb (Nat.le_refl _) (row_cell W _ 47 j u h)
  refine ⟨_, 2, rfl, Nat.le_refl _, .inr ⟨W.heap.size, 0, rfl, fun j x hx => ?_⟩⟩
  have hj := (List.getElem?_eq_some_iff.1 hx).1
  simp at hj
  obtain rfl | rfl : j = 0 ∨ j = 1 := by omega
  · simp at hx; subst hx
    exact ⟨R 0 _ rfl, R 1 _ rfl, R 2 _ rfl, R 3 _ rfl, R 4 _ rfl, R 5 _ rfl, R 6 _ rfl⟩
  · simp at hx; subst hx
    exact ⟨R 7 _ rfl, R 8 _ rfl, R 9 _ rfl, R 10 _ rfl, R 11 _ rfl, R 12 _ rfl, R 13 _ rfl⟩
theorem rsc0 (W : World) : RscRow W (.slice none 0 0) [] := ⟨none, 0, rfl, Nat.le_refl _, .inl rfl⟩
theorem cmp0 (W : World) : CmpRow W (.slice none 0 0) [] := ⟨none, 0, rfl, Nat.le_refl _, .inl rfl⟩
theorem smallAB : SmallC [cA, cB] := ⟨by decide, by intro c hc; simp at hc; rcases hc with rfl | rfl <;> decide⟩
set_option maxHeartbeats 3200000 in
set_option maxRecDepth 100000 in
theorem awake_any (w : World) (Ad : Nat → Addr) (hE : Env w Ad) :
    Calls Tryd.prog 8 #[] w fun e w' => e = .returned (.bool true) ∧ Below w.heap.size w w' := by
  have HE := hid hE
  clear hE
  go_enter Tryd.func8, Tryd.ntmps8
  go_wp2_with fail
  obtain ⟨W1, hW1⟩ : ∃ W1, W1 = (w.alloc (.cells #[.string ⟨#[112, 111, 115]⟩, .int .i64 2, .bool true, .int .i64 0, .int .i64 0, .int .i64 0, .int .i64 0, .string ⟨#[112, 111, 115]⟩, .int .i64 9, .bool false, .int .i64 0, .int .i64 0, .int .i64 0, .int .i64 0] 47)).alloc (.cells #[.slice (some ⟨w.heap.size, 0, none⟩) 2 2, .slice none 0 0] 25) := ⟨_, rfl⟩
  have B1 : Hid (Below w.heap.size w W1) := by rw [hW1]; exact ((Below.refl _ _).alloc (Nat.le_refl _) _).alloc (by simp) _
  have ROW : Hid (∀ W', Below W1.heap.size W1 W' → CmpRow W' (.slice (some ⟨w.heap.size, 0, none⟩) 2 2) [cA, cB]) := by
    intro W' hb
    rw [hW1] at hb
    exact rowAB w W' (((Below.refl _ _).alloc (Nat.le_refl _) _).trans (hb.mono (by simp [bPos])))
  have BOX : Hid (W1.cell? ⟨w.heap.size + 1, 0, none⟩ = some (.slice (some ⟨w.heap.size, 0, none⟩) 2 2) ∧ W1.cell? ⟨w.heap.size + 1, 1, none⟩ = some (.slice none 0 0)) := by
    obtain ⟨d0, d1⟩ := cell_new2 (w.alloc (.cells #[.string ⟨#[112, 111, 115]⟩, .int .i64 2, .bool true, .int .i64 0, .int .i64 0, .int .i64 0, .int .i64 0, .string ⟨#[112, 111, 115]⟩, .int .i64 9, .bool false, .int .i64 0, .int .i64 0, .int .i64 0, .int .i64 0] 47)) (.slice (some ⟨w.heap.size, 0, none⟩) 2 2) (.slice none 0 0) 25
    rw [← hW1, show (w.alloc (.cells #[.string ⟨#[112, 111, 115]⟩, .int .i64 2, .bool true, .int .i64 0, .int .i64 0, .int .i64 0, .int .i64 0, .string ⟨#[112, 111, 115]⟩, .int .i64 9, .bool false, .int .i64 0, .int .i64 0, .int .i64 0, .int .i64 0] 47)).heap.size = w.heap.size + 1 by simp] at d0 d1
    exact ⟨d0, d1⟩
  have hlt1 : Hid (w.heap.size + 1 < W1.heap.size) := World.block_lt_of_cell? W1 _ BOX.out.1
  have E1 := hid (HE.out.later B1.out)
  rw [← hW1]
  have CC := hid (check_any Ad W1 _ _ _ _ E1.out (ROW.out W1 (Below.refl _ _)) (rsc0 W1) smallAB ⟨by decide, by simp⟩)
  rw [check2] at CC
  clear hW1
  refine CC.out.mono ?_
  rintro e w2 ⟨v2, rfl, t2, b2⟩
  have B2 := hid b2
  obtain ⟨t, q, rfl⟩ := top_some t2 (by simp)
  have E2 := hid (E1.out.later b2)
  have LC := hid (leaves_any Ad (.iface t q) _ 3 w2 E2.out t2.tr (by omega) (by intro p hp; simp at hp; rcases hp with rfl | rfl; exact ⟨by rw [join1]; decide, by simp⟩; exact ⟨by rw [join2]; decide, by simp⟩) (by simp))
  clear t2 b2 CC
  go_wp2_with fail
  refine LC.out.mono ?_
  rintro e w3 ⟨lv, rfl, ho3, b3⟩
  have B3 := hid (B2.out.trans (b3.mono B2.out.size))
  have O3 := hid ho3
  have N1 : Hid (Calls Tryd.prog 17 #[.agg #[.slice (some ⟨w.heap.size, 0, none⟩) 2 2, .slice none 0 0], .int .i64 0, .int .i64 7] w3 fun e W' => e = .returned (.tuple #[.agg #[.int .i64 0, .int .i64 0, .int .i64 0, .int .i64 0, .int .i64 0, .int .i64 7], .nilIface]) ∧ Below w3.heap.size w3 W') := (new_in w3 (.slice (some ⟨w.heap.size, 0, none⟩) 2 2) (.slice none 0 0) ⟨_, _, _, rfl⟩ [cA, cB] (ROW.out w3 B3.out) (by decide) 0 cA rfl 7)
  have x0 := Below.seen B3.out (Nat.le_refl _) BOX.out.1
  have x1 := Below.seen B3.out (Nat.le_refl _) BOX.out.2
  obtain ⟨g, cap, rfl, hg1, hg2⟩ := World.ownsRow.form ho3 (by simp)
  have G3 := hid hg2
  have D : Hid (∀ W', Below w3.heap.size w3 W' → W'.cell? ⟨g, 0, none⟩ = some (.string ⟨#[99, 111, 109, 112, 111, 110, 101, 110, 116, 115, 47, 49, 47, 110, 97, 109, 101]⟩) ∧ W'.cell? ⟨g, 1, none⟩ = some (.int .i64 9) ∧ W'.cell? ⟨g, 2, none⟩ = some (.string ⟨#[99, 111, 109, 112, 111, 110, 101, 110, 116, 115, 47, 49, 47, 119, 105, 100, 116, 104]⟩) ∧ W'.cell? ⟨g, 3, none⟩ = some (.int .i64 1)) := by
    intro W' hb
    have S := fun (j : Nat) (hj : j < 4) => (hb.cell (p := ⟨g, j, none⟩) hg2).trans (ho3.cellAt j (by simpa using hj))
    refine ⟨(S 0 (by decide)).trans ?_, (S 1 (by decide)).trans ?_, (S 2 (by decide)).trans ?_, (S 3 (by decide)).trans ?_⟩
    · simp [leafCells, join1]
    · simp [leafCells]
    · simp [leafCells, join2]
    · simp [leafCells]
  clear ho3 b3 LC hg1 hg2
  go_wp2_with fail
  refine N1.out.mono ?_
  rintro e w4 ⟨rfl, b4⟩
  have B4 := hid (B3.out.trans (b4.mono B3.out.size))
  have B34 := hid b4
  clear b4 N1 x0 x1
  have x0 := Below.seen B4.out (Nat.le_refl _) BOX.out.1
  have x1 := Below.seen B4.out (Nat.le_refl _) BOX.out.2
  have hl4 : w.heap.size + 1 < w4.heap.size := World.block_lt_of_cell? w4 _ x0
  have hn4 : ¬ (w.heap.size + 1 = w4.heap.size) := by omega
  have BA : Hid (Below w4.heap.size w4 (w4.alloc (.cells #[.int .i64 0, .int .i64 0, .int .i64 0, .int .i64 0, .int .i64 0, .int .i64 7] 42))) := (Below.refl _ _).alloc (Nat.le_refl _) _
  have B5 := hid (B4.out.trans (BA.out.mono B4.out.size))
  have N2 := hid (new_out Ad _ (E1.out.later B5.out) (.slice (some ⟨w.heap.size, 0, none⟩) 2 2) (.slice none 0 0) ⟨_, _, _, rfl⟩ [cA, cB] (ROW.out _ B5.out) (by decide) 2 (.inr (by decide)) 7)
  have P5 : Hid (∀ j, j < 6 → (w4.alloc (.cells #[.int .i64 0, .int .i64 0, .int .i64 0, .int .i64 0, .int .i64 0, .int .i64 7] 42)).cell? ⟨w4.heap.size, j, none⟩ = [Value.int .i64 0, .int .i64 0, .int .i64 0, .int .i64 0, .int .i64 0, .int .i64 7][j]?) := fun j hj => by
    rw [cell_of_row _ _ j _ 42 (0, 0) (heap_alloc_new w4 _)]
    simp
  go_wp2_with fail
  refine N2.out.mono ?_
  rintro e w6 ⟨rfl, b6⟩
  have B6 := hid (B5.out.trans (b6.mono B5.out.size))
  have B56 := hid b6
  have hl5 : w4.heap.size < (w4.alloc (.cells #[.int .i64 0, .int .i64 0, .int .i64 0, .int .i64 0, .int .i64 0, .int .i64 7] 42)).heap.size := by simp
  have P6 : Hid (∀ W', Below w6.heap.size w6 W' → ∀ j u, [Value.int .i64 0, .int .i64 0, .int .i64 0, .int .i64 0, .int .i64 0, .int .i64 7][j]? = some u → W'.cell? ⟨w4.heap.size, j, none⟩ = some u) := by
    intro W' hb j u hu
    have hj : j < 6 := by have := (List.getElem?_eq_some_iff.1 hu).1; simpa using this
    exact Below.seen hb (Nat.le_refl _) ((b6.cell (p := ⟨w4.heap.size, j, none⟩) hl5).trans ((P5.out j hj).trans hu))
  clear b6 N2 x0 x1 hl4 hn4 P5 hl5
  have BL : Hid (Below w6.heap.size w6 (w6.alloc (.cells #[.int .i64 0, .int .i64 0, .int .i64 0, .int .i64 0, .int .i64 0, .int .i64 0] 42))) := (Below.refl _ _).alloc (Nat.le_refl _) _
  have B7 := hid (B6.out.trans (BL.out.mono B6.out.size))
  have B37 : Hid (Below w3.heap.size w3 (w6.alloc (.cells #[.int .i64 0, .int .i64 0, .int .i64 0, .int .i64 0, .int .i64 0, .int .i64 0] 42))) := B34.out.trans ((BA.out.trans ((B56.out.trans (BL.out.mono B56.out.size)).mono BA.out.size)).mono B34.out.size)
  have B36 : Hid (Below w3.heap.size w3 w6) := B34.out.trans ((BA.out.trans (B56.out.mono BA.out.size)).mono B34.out.size)
  obtain ⟨d0, d1, d2, d3⟩ := D.out _ B36.out
  have p0 := P6.out _ (Below.refl _ _) 0 _ rfl
  have p1 := P6.out _ (Below.refl _ _) 1 _ rfl
  have p2 := P6.out _ (Below.refl _ _) 2 _ rfl
  have p3 := P6.out _ (Below.refl _ _) 3 _ rfl
  have p4 := P6.out _ (Below.refl _ _) 4 _ rfl
  have p5 := P6.out _ (Below.refl _ _) 5 _ rfl
  have l1 : g < w6.heap.size := World.block_lt_of_cell? w6 _ d0
  have l2 : w4.heap.size < w6.heap.size := World.block_lt_of_cell? w6 _ p0
  have n1 : ¬ (g = w6.heap.size) := by have := World.block_lt_of_cell? w6 _ d0; simp at this; omega
  have n2 : ¬ (w4.heap.size = w6.heap.size) := by have := World.block_lt_of_cell? w6 _ p0; simp at this; omega
  have q1 := eqL1
  have q2 := eqL2
  have q3 := eqP
  have E7 := hid (E1.out.later B7.out)
  have g1 : w6.cell? ⟨0, 0, none⟩ = some (.iface 147 (.pointer (some (Ad 1)))) := (E1.out.later B6.out).cell 1 (by decide) (by decide)
  have l3 : 0 < w6.heap.size := World.block_lt_of_cell? w6 _ g1
  have n3 : ¬ (0 = w6.heap.size) := by have := World.block_lt_of_cell? w6 _ g1; simp at this; omega
  have I1 := hid (is_top Ad 1 0 (.iface 147 (.pointer (some (Ad 1)))) [([], 1)] _ E7.out (.one _ _ (sent_chn Ad _ 1 _ (by decide))) (by simp) (by decide))
  go_wp2_with fail
  refine I1.out.mono ?_
  rintro e w8 ⟨he, b8⟩
  obtain rfl : e = .returned (.bool true) := he
  have B8 := hid (B7.out.trans (b8.mono B7.out.size))
  clear b8 I1 d0 d1 d2 d3 p0 p1 p2 p3 p4 p5 n1 n2 n3 g1 l1 l2 l3
  have x0 := Below.seen B8.out (Nat.le_refl _) BOX.out.1
  have x1 := Below.seen B8.out (Nat.le_refl _) BOX.out.2
  have R1 := hid (rollback_any w8 (.slice (some ⟨w.heap.size, 0, none⟩) 2 2) (.slice none 0 0) ⟨_, _, _, rfl⟩ [cA, cB] (ROW.out _ B8.out) (by decide))
  rw [kindA] at R1
  go_wp2_with fail
  refine R1.out.mono ?_
  rintro e w9 ⟨rfl, b9⟩
  have B9 := hid (B8.out.trans (b9.mono B8.out.size))
  clear b9 R1 x0 x1
  have x0 := Below.seen B9.out (Nat.le_refl _) BOX.out.1
  have x1 := Below.seen B9.out (Nat.le_refl _) BOX.out.2
  have R2 := hid (shown_any w9 (.slice (some ⟨w.heap.size, 0, none⟩) 2 2) (.slice none 0 0) ⟨_, _, _, rfl⟩ [cA, cB] (ROW.out _ B9.out) (by decide))
  rw [kindB] at R2
  go_wp2_with fail
  refine R2.out.mono ?_
  rintro e w10 ⟨rfl, b10⟩
  have B10 := hid (B9.out.trans (b10.mono B9.out.size))
  clear b10 R2 x0 x1
  have BO : Hid (Below w10.heap.size w10 (w10.alloc (.cells #[.int .i64 0, .int .i64 3] 3))) := (Below.refl _ _).alloc (Nat.le_refl _) _
  have R3 := hid (of_any (w10.alloc (.cells #[.int .i64 0, .int .i64 3] 3)) (.slice (some ⟨w10.heap.size, 0, none⟩) 2 2) [0, 3] ⟨_, 2, rfl, .inr ⟨w10.heap.size, 0, rfl, fun j x hx => by
    rw [Nat.zero_add]
    refine row_cell w10 [.int .i64 0, .int .i64 3] 3 j _ ?_
    match j, hx with
    | 0, hx => simp at hx; subst hx; rfl
    | 1, hx => simp at hx; subst hx; rfl
    | j + 2, hx => simp at hx⟩⟩ (by decide))
  rw [of03] at R3
  have B11 := hid (B10.out.trans (BO.out.mono B10.out.size))
  go_wp2_with fail
  refine R3.out.mono ?_
  rintro e w11 ⟨rfl, rfl⟩
  clear R3
  have C0 := hid (check_any Ad _ _ _ _ _ (E1.out.later B11.out) (cmp0 _) (rsc0 _) ⟨by decide, by simp⟩ ⟨by decide, by simp⟩)
  rw [check0] at C0
  go_wp2_with fail
  refine C0.out.mono ?_
  rintro e w12 ⟨v12, rfl, t12, b12⟩
  obtain rfl := top_nil t12
  have B12 := hid (B11.out.trans (b12.mono B11.out.size))
  clear t12 b12 C0
  go_wp2_with fail
  go_ret
  exact ⟨rfl, B1.out.trans (B12.out.mono B1.out.size)⟩
end Go.Proofs.YtmekfiafdjdopaaDoor
