/- TallyMixes: the walk. -/
import Derived.Test.YtieelgikhbnalaaTe
namespace Go.Proofs.Ytieelgikhbnalaa
open Go.ChangeShapes Go.WideShapes Go.ChangeAt Go.RowKit
theorem lit0 (w : World) : (w.alloc (.cells #[] 32)).ownsRow w.heap.size 32 1 (.slice (some ⟨w.heap.size, 0, none⟩) 0 0) ([] : List Nat).length (([] : List Nat).map nv) :=
  World.ownsRow_lit (base := w.heap.size) (e := 32) (size := 1) w #[] 0 (Nat.le_refl _) (by simp [maxLen]) (by simp)
theorem lit1 (w : World) (n : Nat) : (w.alloc (.cells #[.int .u64 (n : Int)] 32)).ownsRow w.heap.size 32 1 (.slice (some ⟨w.heap.size, 0, none⟩) 1 1) [n].length ([n].map nv) :=
  World.ownsRow_lit (base := w.heap.size) (e := 32) (size := 1) w #[.int .u64 (n : Int)] 1 (Nat.le_refl _) (by simp [maxLen]) (by simp)
theorem mix_one (n : Nat) (w : World) : Calls Try.prog 17 #[.slice (some ⟨w.heap.size, 0, none⟩) 1 1] (w.alloc (.cells #[.int .u64 (n : Int)] 32)) fun e w' => e = .returned (.int .u64 (mixZ [n])) ∧ w' = w.alloc (.cells #[.int .u64 (n : Int)] 32) :=
  mix_any _ [n] _ (by simp) (RowV.nums (own_rowV (lit1 w n)))
theorem mix_none (w : World) : Calls Try.prog 17 #[.slice none 0 0] w fun e w' => e = .returned (.int .u64 0) ∧ w' = w :=
  mix_any _ [] _ (by simp) ⟨_, _, rfl, .inl rfl⟩
set_option maxHeartbeats 1600000 in
set_option maxRecDepth 100000 in
theorem mixes_any (va vb : Value) (a b : List Nat) (one : Nat) (w : World) (ha : a.length ≤ 60) (hb : b.length ≤ 60) (hA : RowV w va (a.map nv)) (hB : RowV w vb (b.map nv)) :
    Calls Try.prog 6 #[va, vb, .int .u64 one] w fun e w' => e = .returned (.bool true) ∧ Below w.heap.size w w' := by
  obtain ⟨aa, ac, hva, -⟩ := hA.plain
  obtain ⟨ba, bc, hvb, -⟩ := hB.plain
  rw [List.length_map] at hva hvb
  subst hva hvb
  have hal : (a.length : Int) ≤ 60 := by omega
  have hbl : (b.length : Int) ≤ 60 := by omega
  have HA := hid hA
  have HB := hid hB
  clear hA hB
  go_enter Try.func6, Try.ntmps6
  go_wp2_with fail
  refine (awake_any _).mono ?_
  rintro e w1 ⟨rfl, hb1⟩
  have A1 := hid (HA.out.later hb1 (Nat.le_refl _))
  have B1 := hid (HB.out.later hb1 (Nat.le_refl _))
  have W1 := hid hb1
  clear HA HB hb1
  have e1 := hid (Below.refl w1.heap.size w1 |>.alloc (Nat.le_refl _) (.cells #[] 32))
  have o1 := hid (lit0 w1)
  go_wp2_with (first
    | (at_builtin; refine wpList_nums _ rfl (.tmp 20) (.tmp 21) rfl w1.heap.size _ ([] : List Nat) rfl ?_ _ a rfl ?_ ?_ ?_ ?_; exact o1.out; exact A1.out.later e1.out (Nat.le_refl _); simp; omega; exact e1.out.size; intro g1 c1 y1 w2 h2 o2 b2; have l1 := hid ((congrArg List.length h2.out).trans List.length_append))
    | (at_builtin; refine wpList_nums _ rfl (.tmp 22) (.tmp 23) rfl w1.heap.size _ y1 rfl ?_ _ b rfl ?_ ?_ ?_ ?_; exact o2.out; exact B1.out.later (e1.out.trans b2.out) (Nat.le_refl _); have q := l1.out; simp at q; omega; exact Nat.le_trans e1.out.size b2.out.size; intro g2 c2 y2 w3 h3 o3 b3; have l2 := hid ((congrArg List.length h3.out).trans List.length_append); have D3 := hid ((e1.out.trans b2.out).trans b3.out); have A3 := hid (A1.out.later D3.out (Nat.le_refl _)); have B3 := hid (B1.out.later D3.out (Nat.le_refl _)); have W3 := hid (W1.out.trans (D3.out.mono W1.out.size)); have X3 := hid (own_rowV o3.out); have e3 := hid ((Below.refl w3.heap.size w3).alloc (Nat.le_refl _) (.cells #[] 32)); have o4 := hid (lit0 w3); clear A1 B1 W1 D3 e1 o1 o2 b2 o3 b3)
    | (at_builtin; refine wpList_nums _ rfl (.tmp 25) (.tmp 26) rfl w3.heap.size _ ([] : List Nat) rfl ?_ _ b rfl ?_ ?_ ?_ ?_; exact o4.out; exact B3.out.later e3.out (Nat.le_refl _); simp; omega; exact e3.out.size; intro g3 c3 y3 w4 h4 o5 b4; have l3 := hid ((congrArg List.length h4.out).trans List.length_append))
    | (at_builtin; refine wpList_nums _ rfl (.tmp 27) (.tmp 28) rfl w3.heap.size _ y3 rfl ?_ _ a rfl ?_ ?_ ?_ ?_; exact o5.out; exact A3.out.later (e3.out.trans b4.out) (Nat.le_refl _); have q := l3.out; simp at q; omega; exact Nat.le_trans e3.out.size b4.out.size; intro g4 c4 y4 w5 h5 o6 b5; have l4 := hid ((congrArg List.length h5.out).trans List.length_append); have D5 := hid ((e3.out.trans b4.out).trans b5.out); have A5 := hid (A3.out.later D5.out (Nat.le_refl _)); have B5 := hid (B3.out.later D5.out (Nat.le_refl _)); have W5 := hid (W3.out.trans (D5.out.mono W3.out.size)); have X5 := hid (X3.out.later D5.out (Nat.le_refl _)); have Y5 := hid (own_rowV o6.out); have e5 := hid ((Below.refl w5.heap.size w5).alloc (Nat.le_refl _) (.cells #[.int .u64 (one : Int)] 32)); have o7 := hid (lit1 w5 one); clear A3 B3 W3 D5 X3 e3 o4 o5 b4 o6 b5)
    | (at_builtin; refine wpList_nums _ rfl (.tmp 31) (.tmp 32) rfl w5.heap.size _ [one] rfl ?_ _ a rfl ?_ ?_ ?_ ?_; exact o7.out; exact A5.out.later e5.out (Nat.le_refl _); simp; omega; exact e5.out.size; intro g5 c5 y5 w6 h6 o8 b6; have l5 := hid ((congrArg List.length h6.out).trans List.length_append))
    | (at_builtin; refine wpList_nums _ rfl (.tmp 33) (.tmp 34) rfl w5.heap.size _ y5 rfl ?_ _ b rfl ?_ ?_ ?_ ?_; exact o8.out; exact B5.out.later (e5.out.trans b6.out) (Nat.le_refl _); have q := l5.out; simp at q; omega; exact Nat.le_trans e5.out.size b6.out.size; intro g6 c6 y6 w7 h7 o9 b7; have l6 := hid ((congrArg List.length h7.out).trans List.length_append); have D7 := hid ((e5.out.trans b6.out).trans b7.out); have A7 := hid (A5.out.later D7.out (Nat.le_refl _)); have B7 := hid (B5.out.later D7.out (Nat.le_refl _)); have W7 := hid (W5.out.trans (D7.out.mono W5.out.size)); have X7 := hid (X5.out.later D7.out (Nat.le_refl _)); have Y7 := hid (Y5.out.later D7.out (Nat.le_refl _)); have Z7 := hid (own_rowV o9.out); clear A5 B5 W5 D7 X5 Y5 e5 o7 o8 b6 o9 b7))
  have ex : y2 = a ++ b := by rw [h3.out, h2.out]; rfl
  have ey : y4 = b ++ a := by rw [h5.out, h4.out]; rfl
  have ez : y6 = [one] ++ a ++ b := by rw [h7.out, h6.out]
  have t1 : (mixZ y2 == mixZ y4) = true := by rw [ex, ey]; exact mixes1 a b
  have t2 : (mixZ y2 == IntKind.u64.wrap (mixZ a + mixZ b)) = true := by rw [ex]; exact mixes2 a b
  have t3 : (IntKind.u64.wrap (mixZ y6 - mixZ y2) == mixZ [one]) = true := by rw [ex, ez]; exact mixes3 one a b
  have z2 : y2.length ≤ 140737488355328 := by rw [ex]; simp; omega
  have z4 : y4.length ≤ 140737488355328 := by rw [ey]; simp; omega
  have z6 : y6.length ≤ 140737488355328 := by rw [ez]; simp; omega
  have cX := hid (mix_any _ y2 w7 z2 X7.out.nums)
  have cY := hid (mix_any _ y4 w7 z4 Y7.out.nums)
  have cZ := hid (mix_any _ y6 w7 z6 Z7.out.nums)
  have cA := hid (mix_any _ a w7 (by omega) A7.out.nums)
  have cB := hid (mix_any _ b w7 (by omega) B7.out.nums)
  have cO := hid (mix_one one w7)
  have cN := hid (mix_none (w7.alloc (.cells #[.int .u64 (one : Int)] 32)))
  obtain ⟨mx, hx⟩ : ∃ m, m = mixZ y2 := ⟨_, rfl⟩
  obtain ⟨my, hy⟩ : ∃ m, m = mixZ y4 := ⟨_, rfl⟩
  obtain ⟨mz, hz⟩ : ∃ m, m = mixZ y6 := ⟨_, rfl⟩
  obtain ⟨ma, hma⟩ : ∃ m, m = mixZ a := ⟨_, rfl⟩
  obtain ⟨mb, hmb⟩ : ∃ m, m = mixZ b := ⟨_, rfl⟩
  obtain ⟨mo, hmo⟩ : ∃ m, m = mixZ [one] := ⟨_, rfl⟩
  rw [← hx, ← hy] at t1
  rw [← hx, ← hma, ← hmb] at t2
  rw [← hx, ← hz, ← hmo] at t3
  rw [← hx] at cX
  rw [← hy] at cY
  rw [← hz] at cZ
  rw [← hma] at cA
  rw [← hmb] at cB
  rw [← hmo] at cO
  clear ex ey ez z2 z4 z6 hx hy hz hma hmb hmo h2 h3 h4 h5 h6 h7 l1 l2 l3 l4 l5 l6 X7 Y7 Z7 A7 B7
  go_wp2_with fail
  refine cX.out.mono ?_
  rintro e w' ⟨rfl, rfl⟩
  go_wp2_with fail
  refine cY.out.mono ?_
  rintro e w' ⟨rfl, rfl⟩
  go_wp2_with fail
  refine cX.out.mono ?_
  rintro e w' ⟨rfl, rfl⟩
  go_wp2_with fail
  refine cA.out.mono ?_
  rintro e w' ⟨rfl, rfl⟩
  go_wp2_with fail
  refine cB.out.mono ?_
  rintro e w' ⟨rfl, rfl⟩
  go_wp2_with fail
  refine cZ.out.mono ?_
  rintro e w' ⟨rfl, rfl⟩
  go_wp2_with fail
  refine cX.out.mono ?_
  rintro e w' ⟨rfl, rfl⟩
  go_wp2_with fail
  refine cO.out.mono ?_
  rintro e w' ⟨rfl, rfl⟩
  go_wp2_with fail
  refine cN.out.mono ?_
  rintro e w' ⟨rfl, rfl⟩
  go_wp2_with fail
  go_ret
  exact ⟨rfl, W7.out.alloc W7.out.size _⟩
theorem mixes_out (va vb : Value) (a b : List Nat) (one : Nat) (w : World) (hla : a.length ≤ maxLen) (hlb : b.length ≤ maxLen) (h : 60 < a.length ∨ 60 < b.length) (hA : RowV w va (a.map nv)) (hB : RowV w vb (b.map nv)) :
    Calls Try.prog 6 #[va, vb, .int .u64 one] w fun e w' => e = .returned (.bool true) ∧ Below w.heap.size w w' := by
  obtain ⟨aa, ac, hva, -⟩ := hA.plain
  obtain ⟨ba, bc, hvb, -⟩ := hB.plain
  rw [List.length_map] at hva hvb
  subst hva hvb
  unfold maxLen at hla hlb
  by_cases h1 : 60 < a.length
  · go_enter Try.func6, Try.ntmps6
    go_wp2_with (go_at_call 7; refine (awake_any _).mono ?_; rintro e w1 ⟨rfl, hb1⟩)
    go_ret
    exact ⟨rfl, hb1⟩
  · have h2 := h.resolve_left h1
    go_enter Try.func6, Try.ntmps6
    go_wp2_with (go_at_call 7; refine (awake_any _).mono ?_; rintro e w1 ⟨rfl, hb1⟩)
    go_ret
    exact ⟨rfl, hb1⟩
end Go.Proofs.Ytieelgikhbnalaa
