/- The journal: awake. -/
import Derived.Test.YtnbgjbdbbmpoaaaDoorJoJu
namespace Go.Proofs.YtnbgjbdbbmpoaaaDoor.Jo
open Go.RowKit Go.Shelf Go.Maps
/-- An entry without parts. -/
def en (k id c t n o : Int) : Ue := ⟨k, id, ⟨c, 0, 0, 0, 0, t⟩, .slice none 0 0, [], n, o⟩
theorem en_src (w : World) (k id c t n o : Int) : PSrc w (en k id c t n o).pv (en k id c t n o).ps := .inl ⟨rfl, rfl⟩
theorem en_form (k id c t n o : Int) : ∃ ad m cp, (en k id c t n o).pv = .slice ad m cp := ⟨_, _, _, rfl⟩
theorem i64s (n : Int) (h0 : 0 ≤ n := by decide) (h1 : n ≤ 1000 := by decide) : I64 n := I64_small h0 (by omega)
theorem three_of {l : List Ue} {a b c : Ue} (h : l.map Ue.bare = [a, b, c]) : ∃ x y z, l = [x, y, z] ∧ x.k = a.k ∧ z.k = c.k := by
  match l, h with
  | [x, y, z], h =>
    simp only [List.map_cons, List.map_nil, List.cons.injEq, and_true] at h
    exact ⟨x, y, z, rfl, by rw [← h.1]; rfl, by rw [← h.2.2]; rfl⟩
theorem irow_one (W : World) : IRow (W.alloc (.cells #[.int .i64 1] 3)) (.slice (some ⟨W.heap.size, 0, none⟩) 1 1) [1] := by
  have r := heap_alloc_new W (.cells #[.int .i64 1] 3)
  refine ⟨_, _, rfl, .inr ⟨W.heap.size, 0, rfl, fun j x hj => ?_⟩⟩
  match j, hj with
  | 0, hj => obtain rfl : (1 : Int) = x := by simpa using hj
             exact cell_blk r rfl
  | j + 1, hj => simp at hj
set_option maxHeartbeats 6400000 in
set_option maxRecDepth 100000 in
theorem awake_any (Ad : Nat → Addr) (W : World) (hE : Env8 W Ad) : Calls Tryd.prog 7 #[] W fun e W' => e = .returned (.bool true) ∧ Below W.heap.size W W' := by
  have HE := hid hE
  have NW := hid (wj_new W 9 (by decide) (by decide))
  clear hE
  go_enter Tryd.func7, Tryd.ntmps7
  go_wp2_with fail
  refine NW.out.mono ?_
  rintro e w1 ⟨rfl, h1⟩
  have A1 := hid h1
  have G1 := hid (wj_state A1.out (HE.out.later (A1.out.base (Nat.le_refl _))) (en 2 1 0 0 0 0) (by decide) (by decide) (en_form _ _ _ _ _ _))
  clear NW h1
  go_wp2_with fail
  refine G1.out.mono ?_
  rintro e w2 ⟨t2, q2, rfl, hv2, hb2⟩
  have V2 := hid hv2
  have A2 := hid (A1.out.later hb2)
  have G2 := hid (wj_mark A2.out 0 (by decide) (by decide) rfl)
  clear G1 A1 hv2 hb2
  go_wp2_with fail
  refine G2.out.mono ?_
  rintro e w3 ⟨rfl, h3, s3⟩
  have V3 := hid (V2.out.apt s3)
  have A3 : Hid (Wj W W.heap.size 9 ([] ++ [(0, [])]) w3) := h3
  have G3 := hid (wj_note A3.out (en 2 1 0 0 0 0) ⟨i64s 1, i64s 0, i64s 0⟩ (by decide) (by decide) (en_src _ _ _ _ _ _ _) (by decide) (by decide) (by decide))
  clear G2 A2 V2 h3 s3
  go_wp2_with fail
  refine G3.out.mono ?_
  rintro e w4 ⟨rfl, h4, s4⟩
  have V4 := hid (V3.out.apu s4)
  have A4 : Hid (Wj W W.heap.size 9 ([] ++ [(0, [en 2 1 0 0 0 0])]) w4) := h4
  have G4 := hid (wj_old A4.out (en 1 1 0 0 0 0) ⟨i64s 1, i64s 0, i64s 0⟩ (by decide) (by decide) (en_form _ _ _ _ _ _) (by decide))
  clear G3 A3 V3 h4 s4
  go_wp2_with fail
  refine G4.out.mono ?_
  rintro e w5 ⟨rfl, hb5⟩
  have V5 := hid (V4.out.later hb5)
  have A5 := hid (A4.out.later hb5)
  have G5 := hid (wj_note A5.out (en 6 0 0 0 2 5) ⟨i64s 0, i64s 0, i64s 2⟩ (by decide) (by decide) (en_src _ _ _ _ _ _ _) (by decide) (by decide) (by decide))
  clear G4 A4 V4 hb5
  go_wp2_with fail
  refine G5.out.mono ?_
  rintro e w6 ⟨rfl, h6, s6⟩
  have V6 := hid (V5.out.apu s6)
  have A6 : Hid (Wj W W.heap.size 9 [(0, [en 2 1 0 0 0 0, en 6 0 0 0 2 5])] w6) := h6
  have G6 := hid (wj_mark A6.out 1 (by decide) (by decide) (by decide))
  clear G5 A5 V5 h6 s6
  go_wp2_with fail
  refine G6.out.mono ?_
  rintro e w7 ⟨rfl, h7, s7⟩
  have V7 := hid (V6.out.apt s7)
  have A7 : Hid (Wj W W.heap.size 9 ([(0, [en 2 1 0 0 0 0, en 6 0 0 0 2 5])] ++ [(1, [])]) w7) := h7
  have G7 := hid (wj_note A7.out (en 1 1 0 0 0 0) ⟨i64s 1, i64s 0, i64s 0⟩ (by decide) (by decide) (en_src _ _ _ _ _ _ _) (by decide) (by decide) (by decide))
  clear G6 A6 V6 h7 s7
  go_wp2_with fail
  refine G7.out.mono ?_
  rintro e w8 ⟨rfl, h8, s8⟩
  have V8 := hid (V7.out.apu s8)
  have A8 : Hid (Wj W W.heap.size 9 [(0, [en 2 1 0 0 0 0, en 6 0 0 0 2 5]), (1, [en 1 1 0 0 0 0])] w8) := h8
  have G8 := hid (wj_since A8.out (by decide) 0 (by decide))
  clear G7 A7 V7 h8 s8
  go_wp2_with fail
  refine G8.out.mono ?_
  rintro e w9 ⟨lv, l, rfl, hu9, hl9, hb9⟩
  obtain ⟨x, y, z, rfl, hx, hz⟩ := three_of (hl9.trans (show _ = [en 1 1 0 0 0 0, en 6 0 0 0 2 5, en 2 1 0 0 0 0] from rfl))
  obtain ⟨a, c, rfl⟩ := hu9.form
  have U9 := hid hu9
  have V9 := hid (V8.out.later hb9)
  have A9 := hid (A8.out.later hb9)
  have HX := hid hx
  have HZ := hid hz
  have G9 := hid (wj_since_bad A9.out (HE.out.later (A9.out.base (Nat.le_refl _))) 2 (by decide))
  clear G8 A8 V8 hu9 hb9 hl9 hx hz
  go_wp2_with fail
  refine G9.out.mono ?_
  rintro e w10 ⟨t10, q10, rfl, hv10, hb10⟩
  have U10 := hid (U9.out.later hb10)
  have V10 := hid (V9.out.later hb10)
  have X10 := hid hv10
  have A10 := hid (A9.out.later hb10)
  have G10 : Hid (Calls Tryd.prog 20 #[.pointer (some ⟨W.heap.size, 0, none⟩), .int .i64 1] w10 fun e w' => e = .returned (.int .i64 2) ∧ Wj W W.heap.size 9 [(1, [en 1 1 0 0 0 0])] w' ∧ St (fun k => ¬ Apt w10 k) w10 w') := wj_forget A10.out (by simp) (by decide) 1
  clear G9 A9 V9 U9 hv10 hb10
  go_wp2_with fail
  refine G10.out.mono ?_
  rintro e w11 ⟨rfl, h11, s11⟩
  have U11 := hid (U10.out.apt s11)
  have V11 := hid (V10.out.apt s11)
  have X11 := hid (X10.out.apt s11)
  have A11 := hid h11
  have E11 := hid (HE.out.later (A11.out.base (Nat.le_refl _)))
  have k8 := E11.out.k8
  have G11 := hid (is_err Ad (k := 8) E11.out V11.out (by decide) (by decide))
  clear G10 A10 V10 U10 X10 h11 s11
  go_wp2_with fail
  refine G11.out.mono ?_
  rintro e w12 ⟨rfl, hb12⟩
  have A12 := hid (A11.out.later hb12)
  have E12 := hid (E11.out.later hb12)
  have k16 := E12.out.k16
  have X12 := hid (X11.out.later hb12)
  obtain ⟨g, rfl, el0, -⟩ := (U11.out.later hb12).el (j := 0) (u := x) rfl
  obtain ⟨g', e', el2, -⟩ := (U11.out.later hb12).el (j := 2) (u := z) rfl
  obtain rfl : g = g' := by simpa using e'
  have d0 : w12.cell? ⟨g, 0, none⟩ = some (.int .i64 1) := by have := el0.1; rw [HX.out] at this; exact this
  have d2 : w12.cell? ⟨g, 22, none⟩ = some (.int .i64 2) := by have := el2.1; rw [HZ.out] at this; exact this
  have G12 := hid (is_err Ad (k := 16) E12.out X12.out (by decide) (by decide))
  clear G11 A11 V11 U11 X11 E11 hb12 el0 el2 e' k8
  go_wp2_with fail
  refine G12.out.mono ?_
  rintro e w13 ⟨rfl, hb13⟩
  have A13 := hid (A12.out.later hb13)
  have G13 : Hid (Calls Tryd.prog 24 #[.pointer (some ⟨W.heap.size, 0, none⟩)] w13 fun e w' => e = .returned (.int .i64 1) ∧ w' = w13) := wj_len A13.out
  clear G12 A12 X12 E12 hb13 d0 d2 k16
  go_wp2_with fail
  refine G13.out.mono ?_
  rintro e w14 ⟨rfl, rfl⟩
  have G14 := hid (wj_marks A13.out (by decide))
  clear G13
  go_wp2_with fail
  refine G14.out.mono ?_
  rintro e w15 ⟨v, rfl, hv, hb15⟩
  obtain ⟨a', c', rfl⟩ := hv.slice
  have hb16 := bAl w15 (.cells #[.int .i64 1] 3)
  have G15 := hid (same4_any _ _ _ [1] (irow_of (hv.later hb16)) (irow_one w15) (by decide))
  have A16 := hid ((A13.out.later hb15).later hb16)
  clear G14 A13 hb15 hb16 hv
  go_wp2_with fail
  refine G15.out.mono ?_
  rintro e w17 ⟨rfl, hb17⟩
  have BF := hid ((A16.out.later hb17).base (Nat.le_refl _))
  clear G15 A16 hb17
  go_wp2_with fail
  go_ret
  exact ⟨rfl, BF.out⟩
end Go.Proofs.YtnbgjbdbbmpoaaaDoor.Jo
