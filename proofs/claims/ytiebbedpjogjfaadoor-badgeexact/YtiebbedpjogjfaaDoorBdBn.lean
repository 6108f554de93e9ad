/- Badges: awake. -/
import Derived.Test.YtiebbedpjogjfaaDoorBdBm
namespace Go.Proofs.YtiebbedpjogjfaaDoor.Bd
open Go.RowKit Go.Shelf Go.Maps
set_option maxRecDepth 100000 in
theorem eql_ent (i g i' g' : Int) (hi : I64 i) (hg : I64 g) (hi' : I64 i') (hg' : I64 g') (w : World) : (binOp .eql 29 (.agg #[.int .i64 i, .int .i64 g]) (.agg #[.int .i64 i', .int .i64 g'])).run Tryd.prog w = .ok (.bool (decide (i = i' ∧ g = g'))) w := by
  obtain ⟨r, hr, hiff⟩ := run_equal_deep (P := Tryd.prog) w (m := 2) (by omega) (k := 29) (by kernel_rfl) Tryd.wide24 (key_ent i g hi hg) (key_ent i' g' hi' hg')
  have e : r = decide (i = i' ∧ g = g') := by
    rw [Bool.eq_iff_iff, hiff, decide_eq_true_iff]
    exact ⟨fun h => kl_inj hi hg hi' hg' h, fun h => by rw [h.1, h.2]⟩
  unfold entV at hr
  rw [← e]
  simp [binOp, hr]
theorem irow_new (W : World) : IRow (W.alloc (.cells #[.int .i64 1, .int .i64 2] 3)) (.slice (some ⟨W.heap.size, 0, none⟩) 2 2) [1, 2] := by
  have r := heap_alloc_new W (.cells #[.int .i64 1, .int .i64 2] 3)
  refine ⟨_, _, rfl, .inr ⟨W.heap.size, 0, rfl, fun j x hj => ?_⟩⟩
  match j, hj with
  | 0, hj => obtain rfl : (1 : Int) = x := by simpa using hj
             exact cell_blk r rfl
  | 1, hj => obtain rfl : (2 : Int) = x := by simpa using hj
             exact cell_blk r rfl
  | j + 2, hj => simp at hj
theorem i64s (n : Int) (h0 : 0 ≤ n := by decide) (h1 : n ≤ 1000 := by decide) : I64 n := I64_mid (by omega) (by omega)
set_option maxHeartbeats 6400000 in
set_option maxRecDepth 100000 in
theorem awake_any (Ad : Nat → Addr) (W : World) (hE : Env5 W Ad) : Calls Tryd.prog 4 #[] W fun e W' => e = .returned (.bool true) ∧ Below W.heap.size W W' := by
  have HE := hid hE
  have NW := hid (new_any W)
  clear hE
  go_enter Tryd.func4, Tryd.ntmps4
  go_wp2_with fail
  refine NW.out.mono ?_
  rintro e w1 ⟨bb, ob, nb, rfl, h1, b1⟩
  have A1 : Hid (Bw W bb ob nb 1 [] [] w1) := ⟨h1, b1, fun x hx => by simp at hx⟩
  have G1 := hid (bw_give A1.out 1 0 (i64s 1) (i64s 0) rfl (by decide))
  clear NW h1 b1
  go_wp2_with fail
  refine G1.out.mono ?_
  rintro e w2 ⟨rfl, h2, -⟩
  have A2 : Hid (Bw W bb ob nb 2 [(1, 1, 0)] [] w2) := h2
  have G2 := hid (bw_give A2.out 2 0 (i64s 2) (i64s 0) (by decide) (by decide))
  clear G1 h2 A1
  go_wp2_with fail
  refine G2.out.mono ?_
  rintro e w3 ⟨rfl, h3, -⟩
  have A3 : Hid (Bw W bb ob nb 3 [(1, 1, 0), (2, 2, 0)] [] w3) := h3
  have G3 := hid (give_twice A3.out.bg (A3.out.env HE.out) 2 0 (i64s 2) (i64s 0) (x := 2) (by decide))
  clear G2 h3 A2
  go_wp2_with fail
  refine G3.out.mono ?_
  rintro e w4 ⟨t4, q4, rfl, hv4, hb4⟩
  have A4 := hid (A3.out.later hb4)
  have V4 := hid hv4
  have D4 := hid (bw_drop A4.out 1 1 0 (i64s 1) (by decide))
  clear G3 hv4 hb4 A3
  go_wp2_with fail
  refine D4.out.mono ?_
  rintro e w5 ⟨rfl, h5, s5⟩
  obtain ⟨w6, hw6⟩ : ∃ w6, w6 = w5.alloc (.cells #[.int .i64 1, .int .i64 0] 29) := ⟨_, rfl⟩
  have A6 : Hid (Bw W bb ob nb 3 [(2, 2, 0)] [(w5.heap.size, .cells #[.int .i64 1, .int .i64 0] 29 (0, 0))] w6) := by
    rw [hw6]
    exact Bw.alloc h5 #[.int .i64 1, .int .i64 0] 29
  have b6 : Below w5.heap.size w5 w6 := by rw [hw6]; exact bAl _ _
  have V6 := hid ((A4.out.err s5 V4.out).later b6)
  have HW6 := hid hw6
  have P6 := hid (bw_pin A6.out 1 3 0 (i64s 3) (i64s 0) (by decide) (by decide) (by decide) (by decide))
  clear D4 h5 s5 hw6 b6 A4 V4
  go_upto_region 8 with fail
  rw [← HW6.out]
  go_wp2_with fail
  refine P6.out.mono ?_
  rintro e w7 ⟨rfl, h7, s7⟩
  have A7 : Hid (Bw W bb ob nb 3 [(1, 3, 0), (2, 2, 0)] [(w5.heap.size, .cells #[.int .i64 1, .int .i64 0] 29 (0, 0))] w7) := h7
  have V7 := hid (A6.out.err s7 V6.out)
  have I7 : Hid (Calls Tryd.prog 17 #[.pointer (some ⟨bb, 0, none⟩), .agg #[.int .i64 3, .int .i64 0]] w7 fun e W' => e = .returned (.tuple #[.int .i64 1, .bool true]) ∧ Below w7.heap.size w7 W') := id_any A7.out.bg 3 0 (i64s 3) (i64s 0)
  clear P6 h7 s7 A6 V6 HW6
  go_wp2_with fail
  refine I7.out.mono ?_
  rintro e w8 ⟨rfl, hb8⟩
  have A8 := hid (A7.out.later hb8)
  have V8 := hid (V7.out.later hb8)
  have KK : Hid (∀ W', Below w8.heap.size w8 W' → W'.cell? ⟨w5.heap.size, 0, none⟩ = some (.int .i64 1) ∧ W'.cell? ⟨w5.heap.size, 1, none⟩ = some (.int .i64 0) ∧ W'.cell? ⟨0, 0, none⟩ = some (.iface 131 (.pointer (some (Ad 9)))) ∧ W'.cell? ⟨1, 0, none⟩ = some (.iface 131 (.pointer (some (Ad 1))))) := fun W' hb => by
    have A' := A8.out.later hb
    have r := A'.at (List.mem_cons_self ..)
    exact ⟨cell_blk r rfl, cell_blk r rfl, (A'.env HE.out).c9, (A'.env HE.out).c1⟩
  have C17a : Hid (∀ W', Below w8.heap.size w8 W' → Calls Tryd.prog 25 #[.iface t4 q4, .iface 131 (.pointer (some (Ad 9)))] W' fun e w' => e = .returned (.bool true) ∧ Below w8.heap.size w8 w') := fun W' hb => (is_err Ad ((A8.out.later hb).env HE.out) (V8.out.later hb) (p := 9) (k := 9) (by decide) (by decide)).mono fun _ _ ⟨q1, q2⟩ => ⟨q1, hb.trans (q2.mono hb.size)⟩
  have C16 : Hid (∀ W', Below w8.heap.size w8 W' → Calls Tryd.prog 20 #[.pointer (some ⟨bb, 0, none⟩)] W' fun e w' => e = .returned (.int .i64 3) ∧ Below w8.heap.size w8 w') := fun W' hb => (next_any (A8.out.later hb).bg).mono fun _ _ ⟨q1, q2⟩ => ⟨q1, by rw [q2]; exact hb⟩
  have C13 : Hid (∀ W', Below w8.heap.size w8 W' → Calls Tryd.prog 21 #[.pointer (some ⟨bb, 0, none⟩)] W' fun e w' => e = .returned (.int .i64 2) ∧ Below w8.heap.size w8 w') := fun W' hb => (len_any (A8.out.later hb).bg).mono fun _ _ ⟨q1, q2⟩ => ⟨q1, by rw [q2]; exact hb⟩
  have C9 : Hid (∀ W', Below w8.heap.size w8 W' → Calls Tryd.prog 9 #[.pointer (some ⟨bb, 0, none⟩), .int .i64 3, .agg #[.int .i64 0, .int .i64 0]] W' fun e w' => ∃ t q, e = .returned (.iface t q) ∧ Err Ad w' (.iface t q) 1 2 ∧ Below w8.heap.size w8 w') := fun W' hb => (pin_arg (A8.out.later hb).bg ((A8.out.later hb).env HE.out) 3 0 0 (by decide)).mono fun _ _ ⟨t, q, q1, q2, q3⟩ => ⟨t, q, q1, q2, hb.trans (q3.mono hb.size)⟩
  have C17b : Hid (∀ W' t q, Err Ad W' (.iface t q) 1 2 → Below w8.heap.size w8 W' → Calls Tryd.prog 25 #[.iface t q, .iface 131 (.pointer (some (Ad 1)))] W' fun e w' => e = .returned (.bool true) ∧ Below w8.heap.size w8 w') := fun W' t q hv hb => (is_err Ad ((A8.out.later hb).env HE.out) hv (p := 1) (k := 1) (by decide) (by decide)).mono fun _ _ ⟨q1, q2⟩ => ⟨q1, hb.trans (q2.mono hb.size)⟩
  have C12 : Hid (∀ W', Below w8.heap.size w8 W' → Calls Tryd.prog 23 #[.pointer (some ⟨bb, 0, none⟩)] W' fun e w' => ∃ v, e = .returned v ∧ IRow w' v [1, 2] ∧ Below W'.heap.size W' w' ∧ Below w8.heap.size w8 w') := fun W' hb => (list_any (A8.out.later hb).bg).mono fun _ _ ⟨v, q1, q2, q3⟩ => ⟨v, q1, irow_of (xs := [1, 2]) q2, q3, hb.trans (q3.mono hb.size)⟩
  have C18 : Hid (∀ W' v u, IRow W' v [1, 2] → IRow W' u [1, 2] → Below w8.heap.size w8 W' → Calls Tryd.prog 22 #[v, u] W' fun e w' => e = .returned (.bool true) ∧ Below w8.heap.size w8 w') := fun W' v u hv hu hb => (same_any _ v u [1, 2] hv hu (by decide)).mono fun _ _ ⟨q1, q2⟩ => ⟨q1, hb.trans (q2.mono hb.size)⟩
  have heq : ∀ w, (binOp .eql 29 (.agg #[.int .i64 1, .int .i64 0]) (.agg #[.int .i64 1, .int .i64 0])).run Tryd.prog w = .ok (.bool true) w := fun w => eql_ent 1 0 1 0 (i64s 1) (i64s 0) (i64s 1) (i64s 0) w
  clear I7 hb8 A7 V7
  go_upto_region 10 with fail
  go_region_held3 (fun W' => W'.cell? ⟨w5.heap.size, 0, none⟩ = some (.int .i64 1) ∧ W'.cell? ⟨w5.heap.size, 1, none⟩ = some (.int .i64 0) ∧ W'.cell? ⟨0, 0, none⟩ = some (.iface 131 (.pointer (some (Ad 9)))) ∧ W'.cell? ⟨1, 0, none⟩ = some (.iface 131 (.pointer (some (Ad 1)))))
    (first | exact KK.out _ (by assumption) | exact KK.out _ (Below.refl _ _).drew | exact KK.out _ (Below.refl _ _) | exact KK.out _ (hb11.alloc hb11.size _) | exact KK.out _ (hb12.alloc hb12.size _))
    (first
      | (go_at_call_of 25 (Value.iface t4 q4); refine (C17a.out _ (by first | assumption | exact (Below.refl _ _).drew | exact Below.refl _ _)).mono ?_; rintro e w9 ⟨rfl, hb9⟩)
      | (go_at_call 20; refine (C16.out _ (by assumption)).mono ?_; rintro e w10 ⟨rfl, hb10⟩)
      | (go_at_call 21; refine (C13.out _ (by assumption)).mono ?_; rintro e w11 ⟨rfl, hb11⟩)
      | (go_at_call 9; refine (C9.out _ (by assumption)).mono ?_; rintro e w11 ⟨t11, q11, rfl, hv11, hb11⟩)
      | (go_at_call 25; refine (C17b.out _ _ _ (by assumption) (by assumption)).mono ?_; rintro e w11 ⟨rfl, hb11⟩)
      | (go_at_call 23; refine (C12.out _ (by first | assumption | exact hb11.alloc hb11.size _)).mono ?_; rintro e w12 ⟨v12, rfl, hv12, hl12, hb12⟩)
      | (go_at_call 22; refine (C18.out _ _ _ (by first | exact hv12 | exact hv12.later (bAl _ _)) (by first | exact irow_new _ | exact (irow_new _).later hl12) (by first | assumption | exact hb12.alloc hb12.size _)).mono ?_; rintro e w13 ⟨rfl, hb13⟩))
  all_goals
    have BF := hid (A8.out.later hb13).bel
    clear KK C17a C16 C13 C9 C17b C12 C18 heq
    go_wp2_with fail
    go_ret
    exact ⟨rfl, BF.out⟩
end Go.Proofs.YtiebbedpjogjfaaDoor.Bd
