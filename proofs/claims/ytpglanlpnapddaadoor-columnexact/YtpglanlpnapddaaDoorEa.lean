/- The document's column in memory; its New, has, Fits, Row. -/
import Derived.Test.YtpglanlpnapddaaDoorDf
import Derived.Laws.OwnMore
import Derived.Deep.LoopGhost
namespace Go.Proofs.YtpglanlpnapddaaDoor
open Go.RowKit Go.Shelf Go.Maps
/-- The blocks of the document's column. -/
def Fu (ub : Nat) (lv : Value) (k : Nat) : Prop := k = ub ∨ lv.ownBlock = some k
structure Rc (B : Nat) (W : World) (ub : Nat) (lv : Value) (s : CS) : Prop where
  box : W.heap[ub]? = some (.cells #[.int .i64 s.comp, .int .i64 (s.w : Int), lv] 53 (0, 0))
  row : Parts B W lv s.comp s.rows
  low : B ≤ ub
  w0 : 1 ≤ s.w
  w4 : s.w ≤ 4
  small : s.rows.length ≤ 1000
section
variable {B : Nat} {W W' : World} {ub : Nat} {lv : Value} {s : CS}
theorem Rc.ne (h : Rc B W ub lv s) (k : Nat) (hk : lv.ownBlock = some k) : k ≠ ub := fun e => by
  obtain ⟨cur, hc⟩ := h.row.blk hk
  rw [e, h.box] at hc
  simp at hc
theorem Rc.kept {T : Nat → Prop} (h : Rc B W ub lv s) (hs : St T W W') (hd : ∀ k, Fu ub lv k → ¬ T k) : Rc B W' ub lv s :=
  ⟨hs.at h.box (hd _ (.inl rfl)), h.row.kept hs fun _ hx => hd _ (.inr hx), h.low, h.w0, h.w4, h.small⟩
theorem Rc.later (h : Rc B W ub lv s) (hb : Below W.heap.size W W') : Rc B W' ub lv s := h.kept (T := fun _ => False) (St.of_below hb) (fun _ _ q => q)
theorem Rc.lt (h : Rc B W ub lv s) (k : Nat) (hk : Fu ub lv k) : B ≤ k ∧ k < W.heap.size := by
  rcases hk with rfl | hk
  · exact ⟨h.low, (Array.getElem?_eq_some_iff.1 h.box).1⟩
  · exact World.ownsRow.lt h.row k hk
theorem Rc.base (h : Rc B W ub lv s) : B ≤ W.heap.size := by have := h.lt ub (.inl rfl); omega
theorem Rc.c0 (h : Rc B W ub lv s) : W.cell? ⟨ub, 0, none⟩ = some (.int .i64 s.comp) := cell_blk h.box rfl
theorem Rc.c1 (h : Rc B W ub lv s) : W.cell? ⟨ub, 1, none⟩ = some (.int .i64 (s.w : Int)) := cell_blk h.box rfl
theorem Rc.c2 (h : Rc B W ub lv s) : W.cell? ⟨ub, 2, none⟩ = some lv := cell_blk h.box rfl
end
set_option maxHeartbeats 800000 in
theorem rnew_bad (W : World) (c w : Int) (h : c < 0 ∨ 15 < c ∨ w < 1 ∨ 4 < w) : Calls Tryd.prog 9 #[.int .i64 c, .int .i64 w] W fun e W' => e = .returned (.pointer none) ∧ W' = W := by
  by_cases h1 : c < 0
  · go_enter Tryd.func9, Tryd.ntmps9
    go_wp2
    go_ret
    exact ⟨rfl, rfl⟩
  · by_cases h2 : 15 < c
    · go_enter Tryd.func9, Tryd.ntmps9
      go_wp2
      go_ret
      exact ⟨rfl, rfl⟩
    · by_cases h3 : w < 1
      · go_enter Tryd.func9, Tryd.ntmps9
        go_wp2
        go_ret
        exact ⟨rfl, rfl⟩
      · have h4 : 4 < w := by omega
        clear h
        go_enter Tryd.func9, Tryd.ntmps9
        go_wp2
        go_ret
        exact ⟨rfl, rfl⟩
set_option maxHeartbeats 800000 in
theorem rnew_ok (W : World) (c : Int) (w : Nat) (h0 : 0 ≤ c) (h1 : c ≤ 15) (hw0 : 1 ≤ w) (hw : w ≤ 4) :
    Calls Tryd.prog 9 #[.int .i64 c, .int .i64 (w : Int)] W fun e W' => e = .returned (.pointer (some ⟨W.heap.size, 0, none⟩)) ∧ Rc W.heap.size W' W.heap.size (.slice none 0 0) ⟨c, w, []⟩ ∧ Below W.heap.size W W' := by
  have h2 : ¬ (c < 0) := by omega
  have h3 : ¬ (15 < c) := by omega
  have h4 : ¬ ((w : Int) < 1) := by omega
  have h5 : ¬ (4 < (w : Int)) := by omega
  have K : Hid (Rc W.heap.size (W.alloc (.cells #[.int .i64 c, .int .i64 (w : Int), .slice none 0 0] 53)) W.heap.size (.slice none 0 0) ⟨c, w, []⟩) :=
    ⟨heap_alloc_new W _, World.ownsRow_nil _ _ _ _, Nat.le_refl _, hw0, hw, by simp⟩
  go_enter Tryd.func9, Tryd.ntmps9
  go_wp2
  go_ret
  exact ⟨rfl, K.out, bAl _ _⟩
set_option maxHeartbeats 800000 in
theorem rhas_any {B : Nat} {W : World} {ub : Nat} {lv : Value} {s : CS} (h : Rc B W ub lv s) (i : Int) :
    Calls Tryd.prog 33 #[.pointer (some ⟨ub, 0, none⟩), .int .i64 i] W fun e W' => e = .returned (.bool (rowAt s.rows i).isSome) ∧ W' = W := by
  have c2 := h.c2
  obtain ⟨a, c, rfl⟩ := h.row.slice
  by_cases h0 : i < 0
  · have e : Hid ((rowAt s.rows i).isSome = false) := by show _ = _; unfold rowAt; rw [if_neg (by omega)]; rfl
    have h0' : ¬ (0 ≤ i) := by omega
    clear h
    go_enter Tryd.func33, Tryd.ntmps33
    go_wp2
    go_ret
    exact ⟨by rw [e.out]; rfl, rfl⟩
  · have h0' : 0 ≤ i := by omega
    by_cases h1 : i < (s.rows.length : Int)
    · have e : Hid ((rowAt s.rows i).isSome = true) := by
        show _ = _
        unfold rowAt; rw [if_pos h0', List.getElem?_eq_getElem (by omega)]; rfl
      clear h
      go_enter Tryd.func33, Tryd.ntmps33
      go_wp2
      go_ret
      exact ⟨by rw [e.out]; rfl, rfl⟩
    · have e : Hid ((rowAt s.rows i).isSome = false) := by
        show _ = _
        unfold rowAt; rw [if_pos h0', List.getElem?_eq_none (by omega)]; rfl
      clear h
      go_enter Tryd.func33, Tryd.ntmps33
      go_wp2
      go_ret
      exact ⟨by rw [e.out]; rfl, rfl⟩
theorem fit_yes {w : Nat} {p : Pt} (h : ∀ x y, w ≤ x → p.cs[x]? = some y → y = 0) : p.fitB w = true := by
  unfold Pt.fitB
  rw [List.all_eq_true]
  intro y hy
  obtain ⟨j, hj⟩ := List.mem_iff_getElem?.1 hy
  rw [List.getElem?_drop] at hj
  simp [h (w + j) y (by omega) hj]
theorem fit_no {w x : Nat} {p : Pt} {y : Int} (hx : w ≤ x) (h : p.cs[x]? = some y) (hy : y ≠ 0) : p.fitB w = false := by
  rw [Bool.eq_false_iff]
  intro hf
  unfold Pt.fitB at hf
  rw [List.all_eq_true] at hf
  have := hf y (List.mem_iff_getElem?.2 ⟨x - w, by rw [List.getElem?_drop, show w + (x - w) = x by omega]; exact h⟩)
  simp at this
  exact hy this
theorem cs_cell {W : World} {b : Nat} {cm : Int} {p : Pt} (h : W.heap[b]? = some (.cells (p.arr cm) 34 (0, 0))) {x : Nat} {y : Int} (hx : p.cs[x]? = some y) : W.cell? ⟨b, 1 + x, none⟩ = some (.int .i64 y) := by
  refine cell_blk h ?_
  rw [show 1 + x = x + 1 by omega]
  match x, hx with
  | 0, hx => simp [Pt.cs] at hx; subst hx; rfl
  | 1, hx => simp [Pt.cs] at hx; subst hx; rfl
  | 2, hx => simp [Pt.cs] at hx; subst hx; rfl
  | 3, hx => simp [Pt.cs] at hx; subst hx; rfl
  | x + 4, hx => simp [Pt.cs] at hx
set_option maxHeartbeats 1600000 in
set_option maxRecDepth 100000 in
theorem fits_any {B : Nat} {W : World} {ub : Nat} {lv : Value} {s : CS} (h : Rc B W ub lv s) (cm : Int) (p : Pt) :
    Calls Tryd.prog 31 #[.pointer (some ⟨ub, 0, none⟩), p.val cm] W fun e W' => e = .returned (.bool ((cm == s.comp) && p.fitB s.w)) ∧ Below W.heap.size W W' := by
  obtain ⟨W1, hW1⟩ : ∃ W1, W1 = W.alloc (.cells (p.arr cm) 34) := ⟨_, rfl⟩
  have BA : Hid (Below W.heap.size W W1) := by rw [hW1]; exact bAl _ _
  have c1 := h.c1
  have hl := World.block_lt_of_cell? W _ c1
  have hn := World.new_ne W _ c1
  have k0 := (h.later BA.out).c0
  have HH : Hid (W1.heap[W.heap.size]? = some (.cells (p.arr cm) 34 (0, 0))) := by rw [hW1]; exact heap_alloc_new W _
  have d0 : W1.cell? ⟨W.heap.size, 0, none⟩ = some (.int .i64 cm) := cell_blk HH.out rfl
  have hw4 := h.w4
  have HW1 := hid hW1
  generalize s.comp = co at *
  generalize s.w = sw at *
  have hwi : (sw : Int) ≤ 4 := by omega
  clear h hW1
  unfold Pt.val
  unfold Pt.arr at HW1
  go_enter Tryd.func31, Tryd.ntmps31
  go_wp2_with fail
  rw [← HW1.out]
  clear c1 hl hn
  go_loopg [5] (4 - sw) (fun gh i wr => wr = W1 ∧ ∃ k : Nat, sw ≤ k ∧ k ≤ 4 ∧ gh = 4 - k ∧ i = .int .i64 (k : Int) ∧ Hid (∀ x y, sw ≤ x → x < k → p.cs[x]? = some y → y = 0))
  case atStart => exact ⟨rfl, sw, Nat.le_refl _, hw4, rfl, rfl, fun x y h1 h2 => by omega⟩
  case round =>
    obtain ⟨rfl, k, hk0, hk4, rfl, rfl, HA⟩ := hrel
    by_cases hlt : k < 4
    · have hki : (k : Int) < 4 := by omega
      obtain ⟨y, hy⟩ := at_lt p.cs k (by simp [Pt.cs]; omega)
      have cy := cs_cell HH.out hy
      by_cases h0 : y = 0
      · have e0 : (y != 0) = false := by simp [h0]
        have E : Hid (∀ x z, sw ≤ x → x < k + 1 → p.cs[x]? = some z → z = 0) := by
          intro x z h1 h2 h3
          by_cases e : x = k
          · subst e; rw [hy] at h3; simp at h3; omega
          · exact HA.out x z h1 (by omega) h3
        clear hy h0
        go_wp2_with fail
        go_roundg (4 - (k + 1))
        case measure => omega
        case rel => exact ⟨rfl, k + 1, by omega, by omega, rfl, by go_num, E.out⟩
      · have e0 : (y != 0) = true := by simp [h0]
        have E : Hid (p.fitB sw = false) := fit_no hk0 hy h0
        clear hy h0
        go_wp2_with fail
        go_ret
        exact ⟨by rw [E.out]; simp, BA.out⟩
    · have hki : ¬ ((k : Int) < 4) := by omega
      have E : Hid (p.fitB sw = true) := fit_yes fun x y h1 h2 => HA.out x y h1 (by have := (List.getElem?_eq_some_iff.1 h2).1; simp [Pt.cs] at this; omega) h2
      go_wp2_with fail
      go_quiet (fail)
      go_wp2_with fail
      go_ret
      exact ⟨by rw [E.out]; simp, BA.out.trans ((drewN_below _ _).mono BA.out.size)⟩
set_option maxHeartbeats 800000 in
set_option maxRecDepth 100000 in
theorem rrow_none {B : Nat} {W : World} {ub : Nat} {lv : Value} {s : CS} (h : Rc B W ub lv s) (i : Int) (hr : rowAt s.rows i = none) :
    Calls Tryd.prog 25 #[.pointer (some ⟨ub, 0, none⟩), .int .i64 i] W fun e W' => e = .returned (.tuple #[.agg #[.int .i64 0, .int .i64 0, .int .i64 0, .int .i64 0, .int .i64 0, .int .i64 0], .int .i64 7]) ∧ Below W.heap.size W W' := by
  have HA := hid (rhas_any (h.later (bAl W (.cells #[.int .i64 0, .int .i64 0, .int .i64 0, .int .i64 0, .int .i64 0, .int .i64 0] 34))) i)
  rw [hr] at HA
  clear h hr
  go_enter Tryd.func25, Tryd.ntmps25
  go_wp2_with fail
  refine HA.out.mono ?_
  rintro e w1 ⟨rfl, rfl⟩
  clear HA
  go_wp2_with fail
  exact bodyPost_ret (v := .tuple #[.agg #[.int .i64 0, .int .i64 0, .int .i64 0, .int .i64 0, .int .i64 0, .int .i64 0], .int .i64 7]) (by simp [results, Tryd.results25, go_sem]) rfl ⟨rfl, bAl _ _⟩
set_option maxHeartbeats 800000 in
set_option maxRecDepth 100000 in
theorem rrow_some {B : Nat} {W : World} {ub : Nat} {lv : Value} {s : CS} (h : Rc B W ub lv s) (n : Nat) (p : Pt) (hp : s.rows[n]? = some p) :
    Calls Tryd.prog 25 #[.pointer (some ⟨ub, 0, none⟩), .int .i64 (n : Int)] W fun e W' => e = .returned (.tuple #[p.val s.comp, .int .i64 0]) ∧ Below W.heap.size W W' := by
  have hnl : n < s.rows.length := (List.getElem?_eq_some_iff.1 hp).1
  have HA := hid (rhas_any (h.later (bAl W (.cells #[.int .i64 0, .int .i64 0, .int .i64 0, .int .i64 0, .int .i64 0, .int .i64 0] 34))) (n : Int))
  rw [rowAt_nat, hp] at HA
  obtain ⟨a, c, rfl⟩ := h.row.slice
  obtain ⟨g, rfl⟩ := h.row.some (by omega)
  have c2 := h.c2
  obtain ⟨q0, q1, q2, q3, q4, q5⟩ := h.row.cell hp
  have hl := World.block_lt_of_cell? W _ c2
  have hn := World.new_ne W _ c2
  have gl := World.block_lt_of_cell? W _ q0
  have gn := World.new_ne W _ q0
  have hni : (n : Int) < (s.rows.length : Int) := by omega
  have hsm : (s.rows.length : Int) ≤ 1000 := by have := h.small; omega
  clear h hp
  unfold Pt.val
  go_enter Tryd.func25, Tryd.ntmps25
  go_wp2_with fail
  refine HA.out.mono ?_
  rintro e w1 ⟨rfl, rfl⟩
  clear HA
  go_wp2_with fail
  exact bodyPost_ret (v := .tuple #[.agg #[.int .i64 s.comp, .int .i64 p.a, .int .i64 p.b, .int .i64 p.c, .int .i64 p.d, .int .i64 p.t], .int .i64 0]) (by simp [results, Tryd.results25, go_sem]) rfl ⟨rfl, bAl _ _⟩
end Go.Proofs.YtpglanlpnapddaaDoor
