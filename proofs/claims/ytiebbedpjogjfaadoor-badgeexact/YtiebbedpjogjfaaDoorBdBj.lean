/- Badges: Pin. -/
import Derived.Test.YtiebbedpjogjfaaDoorBdBi
import Derived.Test.YtiebbedpjogjfaaDoorKq
namespace Go.Proofs.YtiebbedpjogjfaaDoor.Bd
open Go.RowKit Go.Shelf Go.Maps
section
variable {Ad : Nat → Addr} {B : Nat} {W : World} {bb ob nb : Nat} {n : Int} {l : Prs}
set_option maxHeartbeats 1600000 in
set_option maxRecDepth 100000 in
theorem pin_nil (hE : Env5 W Ad) (id i g : Int) :
    Calls Tryd.prog 9 #[.pointer none, .int .i64 id, .agg #[.int .i64 i, .int .i64 g]] W fun e W' => ∃ t q, e = .returned (.iface t q) ∧ Err Ad W' (.iface t q) 2 1 ∧ Below W.heap.size W W' := by
  obtain ⟨w1, hw1⟩ : ∃ w1, w1 = W.alloc (.cells #[.int .i64 i, .int .i64 g] 29) := ⟨_, rfl⟩
  have b1 : Below W.heap.size W w1 := by rw [hw1]; exact bAl _ _
  have c2 := (hE.later b1).c2
  have HW1 := hid hw1
  have B1 := hid b1
  have AC := hid (fun str => at_err Ad str _ 2 0 w1 (err_leaf Ad w1 2 (by decide)))
  clear hw1 b1 hE
  go_enter Tryd.func9, Tryd.ntmps9
  go_upto_region 1 with fail
  rw [← HW1.out]
  go_wp2_with fail
  refine (AC.out _).mono ?_
  rintro e w3 ⟨t, q, rfl, hv, hb⟩
  have HV := hid hv
  have B3 := hid (B1.out.trans (hb.mono B1.out.size))
  clear hv hb c2 AC
  go_wp2_with fail
  go_ret
  exact ⟨t, q, rfl, HV.out, B3.out⟩
set_option maxHeartbeats 1600000 in
set_option maxRecDepth 100000 in
theorem pin_arg (h : Bg B W bb ob nb n l) (hE : Env5 W Ad) (id i g : Int) (ha : id < 1 ∨ n ≤ id) :
    Calls Tryd.prog 9 #[.pointer (some ⟨bb, 0, none⟩), .int .i64 id, .agg #[.int .i64 i, .int .i64 g]] W fun e W' => ∃ t q, e = .returned (.iface t q) ∧ Err Ad W' (.iface t q) 1 2 ∧ Below W.heap.size W W' := by
  obtain ⟨w1, hw1⟩ : ∃ w1, w1 = W.alloc (.cells #[.int .i64 i, .int .i64 g] 29) := ⟨_, rfl⟩
  have b1 : Below W.heap.size W w1 := by rw [hw1]; exact bAl _ _
  have c1 := (hE.later b1).c1
  have c2 := (h.later b1).c2
  have HW1 := hid hw1
  have B1 := hid b1
  have AC := hid (fun str => at_err Ad str _ 1 0 w1 (err_leaf Ad w1 1 (by decide)))
  clear hw1 b1 hE h
  by_cases h1 : id < 1
  · clear ha c2
    go_enter Tryd.func9, Tryd.ntmps9
    go_upto_region 1 with fail
    rw [← HW1.out]
    go_wp2_with fail
    refine (AC.out _).mono ?_
    rintro e w3 ⟨t, q, rfl, hv, hb⟩
    have AD := hid (fun str => at_err Ad str _ 1 1 w3 hv)
    have B3 := hid (B1.out.trans (hb.mono B1.out.size))
    clear hv hb c1 AC
    go_wp2_with fail
    refine (AD.out _).mono ?_
    rintro e w4 ⟨t4, q4, rfl, hv, hb⟩
    have HV := hid hv
    have B4 := hid (B3.out.trans (hb.mono B3.out.size))
    clear hv hb AD
    go_wp2_with fail
    go_ret
    exact ⟨t4, q4, rfl, HV.out, B4.out⟩
  · have h2 : id ≥ n := by omega
    clear ha
    go_enter Tryd.func9, Tryd.ntmps9
    go_upto_region 1 with fail
    rw [← HW1.out]
    go_wp2_with fail
    refine (AC.out _).mono ?_
    rintro e w3 ⟨t, q, rfl, hv, hb⟩
    have AD := hid (fun str => at_err Ad str _ 1 1 w3 hv)
    have B3 := hid (B1.out.trans (hb.mono B1.out.size))
    clear hv hb c1 AC c2
    go_wp2_with fail
    refine (AD.out _).mono ?_
    rintro e w4 ⟨t4, q4, rfl, hv, hb⟩
    have HV := hid hv
    have B4 := hid (B3.out.trans (hb.mono B3.out.size))
    clear hv hb AD
    go_wp2_with fail
    go_ret
    exact ⟨t4, q4, rfl, HV.out, B4.out⟩
/-- What All answers of two. -/
theorem all_two (W : World) (v1 v2 : Value) (l1 l2 : List (List ByteArray × Nat)) (d : Nat) (h1 : Top Ad W.heap.size W d v1 l1) (h2 : Top Ad W.heap.size W d v2 l2) (hl : l1.length + l2.length ≤ 1000) :
    Calls Tryd.prog 30 #[.slice (some ⟨W.heap.size, 0, none⟩) 2 2] (W.alloc (.cells #[v1, v2] 33)) fun e w' => ∃ v', e = .returned v' ∧ Top Ad w'.heap.size w' d v' (l1 ++ l2) ∧ Below W.heap.size W w' := by
  have b1 := bAl W (.cells #[v1, v2] 33)
  have r1 := heap_alloc_new W (.cells #[v1, v2] 33)
  have hs : W.heap.size < (W.alloc (.cells #[v1, v2] 33)).heap.size := by simp
  have T := all_top Ad d (.slice (some ⟨W.heap.size, 0, none⟩) 2 2) [(v1, l1), (v2, l2)] (W.alloc (.cells #[v1, v2] 33)) ⟨_, _, rfl, .inr ⟨W.heap.size, hs, rfl, fun j x hj => by
      match j, hj with
      | 0, hj => obtain rfl : v1 = x := by simpa using hj
                 exact cell_blk r1 rfl
      | 1, hj => obtain rfl : v2 = x := by simpa using hj
                 exact cell_blk r1 rfl
      | j + 2, hj => simp at hj⟩⟩ (fun u hu => by
      simp at hu
      rcases hu with rfl | rfl
      · exact h1.move b1 b1.size
      · exact h2.move b1 b1.size) (by simp) (by simpa using hl)
  refine T.mono ?_
  rintro e w' ⟨v', rfl, q1, q2⟩
  simp only [List.map_cons, List.map_nil, List.flatten_cons, List.flatten_nil, List.append_nil] at q1
  exact ⟨v', rfl, q1, b1.trans (q2.mono b1.size)⟩
end
end Go.Proofs.YtiebbedpjogjfaaDoor.Bd
