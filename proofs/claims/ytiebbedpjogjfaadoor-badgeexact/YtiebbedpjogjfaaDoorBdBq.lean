/- BadgeOnce: whatever is done they are badges. -/
import Derived.Test.YtiebbedpjogjfaaDoorBdBp
namespace Go.Proofs.YtiebbedpjogjfaaDoor.Bd
open Go.RowKit Go.Shelf Go.Maps
def bNum : ByteArray := ⟨#[110, 117, 109, 98, 101, 114]⟩
def bEnt : ByteArray := ⟨#[101, 110, 116, 105, 116, 121]⟩
theorem at_top (Ad : Nat → Addr) (s : ByteArray) (k : Nat) (hk : 1 ≤ k ∧ k ≤ 18) (w : World) :
    Calls Tryd.prog 26 #[.string s, .iface 131 (.pointer (some (Ad k)))] w fun e w' => ∃ t q, e = .returned (.iface t q) ∧ Top Ad w'.heap.size w' 1 (.iface t q) [([s], k)] ∧ Below w.heap.size w w' := by
  refine (at_chain Ad s 0 _ ([], k) w ⟨rfl, hk.1, hk.2, Nat.le_refl _⟩).mono ?_
  rintro e w' ⟨v', rfl, hc, hb⟩
  obtain ⟨t, q, rfl, _⟩ := hc.1.shape
  exact ⟨t, q, rfl, Top.one _ _ hc, hb⟩
section
variable {Ad : Nat → Addr} {B : Nat} {W : World} {bb ob nb : Nat} {n : Int} {l : Prs}
set_option maxHeartbeats 1600000 in
set_option maxRecDepth 100000 in
theorem uno_top (h : Bg B W bb ob nb n l) (hE : Env5 W Ad) (id : Int) (hi : I64 id) {x : Int × Int} (hn : who l id = some x) :
    Calls Tryd.prog 31 #[.pointer (some ⟨bb, 0, none⟩), .int .i64 id] W fun e W' => ∃ t q, e = .returned (.iface t q) ∧ Top Ad W'.heap.size W' 1 (.iface t q) [([bNum], 9)] ∧ Below W.heap.size W W' := by
  have c0 := h.c0
  have lk0 := h.m1.look und1 id hi
  rw [hn] at lk0
  obtain ⟨a, b⟩ := x
  have lk : (Instr.lookup 60 (.map (some ob)) (.int .i64 id) true).run Tryd.prog W = .ok (.tuple #[.agg #[.int .i64 a, .int .i64 b], .bool true]) W := lk0
  clear lk0
  obtain ⟨w1, hw1⟩ : ∃ w1, w1 = W.alloc (.cells #[.int .i64 a, .int .i64 b] 29) := ⟨_, rfl⟩
  have b1 : Below W.heap.size W w1 := by rw [hw1]; exact bAl _ _
  have c9 := (hE.later b1).c9
  have HW1 := hid hw1
  have B1 := hid b1
  have AC := hid (at_top Ad bNum 9 (by decide) w1)
  clear h hi hn hw1 b1 hE
  go_enter Tryd.func31, Tryd.ntmps31
  go_upto_region 2 with fail
  rw [← HW1.out]
  go_wp2_with fail
  refine AC.out.mono ?_
  rintro e w3 ⟨t, q, rfl, hv, hb⟩
  have HV := hid hv
  have B3 := hid (B1.out.trans (hb.mono B1.out.size))
  clear hv hb c9 AC lk c0
  go_wp2_with fail
  go_ret
  exact ⟨t, q, rfl, HV.out, B3.out⟩
set_option maxHeartbeats 1600000 in
set_option maxRecDepth 100000 in
theorem unn_top (h : Bg B W bb ob nb n l) (hE : Env5 W Ad) (i g : Int) (hi : I64 i) (hg : I64 g) {x : Int} (hn : num l (i, g) = some x) :
    Calls Tryd.prog 27 #[.pointer (some ⟨bb, 0, none⟩), .agg #[.int .i64 i, .int .i64 g]] W fun e W' => ∃ t q, e = .returned (.iface t q) ∧ Top Ad W'.heap.size W' 1 (.iface t q) [([bEnt], 9)] ∧ Below W.heap.size W W' := by
  obtain ⟨w1, hw1⟩ : ∃ w1, w1 = W.alloc (.cells #[.int .i64 i, .int .i64 g] 29) := ⟨_, rfl⟩
  have b1 : Below W.heap.size W w1 := by rw [hw1]; exact bAl _ _
  have r1 : w1.heap[W.heap.size]? = some (.cells #[.int .i64 i, .int .i64 g] 29 (0, 0)) := by rw [hw1]; exact heap_alloc_new W _
  have KK : Hid (∀ W', Below w1.heap.size w1 W' → W'.cell? ⟨bb, 1, none⟩ = some (.map (some nb)) ∧ W'.cell? ⟨W.heap.size, 0, none⟩ = some (.int .i64 i) ∧ W'.cell? ⟨W.heap.size, 1, none⟩ = some (.int .i64 g) ∧ (Instr.lookup 61 (.map (some nb)) (.agg #[.int .i64 i, .int .i64 g]) true).run Tryd.prog W' = .ok (.tuple #[.int .i64 x, .bool true]) W') := fun W' hb => by
    have := ((h.later b1).later hb).rd i g hi hg (blk_seen hb (Nat.le_refl _) r1)
    rw [hn] at this
    exact this
  have HW1 := hid hw1
  have B1 := hid b1
  have HE := hid (fun W' (hb : Below w1.heap.size w1 W') => ((hE.later b1).later hb).c9)
  have AC := hid (fun W' => at_top Ad bEnt 9 (by decide) W')
  clear h hi hg hn hw1 b1 r1 hE
  go_enter Tryd.func27, Tryd.ntmps27
  go_upto_region 1 with fail
  rw [← HW1.out]
  go_region_held3 (fun W' => W'.cell? ⟨bb, 1, none⟩ = some (.map (some nb)) ∧ W'.cell? ⟨W.heap.size, 0, none⟩ = some (.int .i64 i) ∧ W'.cell? ⟨W.heap.size, 1, none⟩ = some (.int .i64 g) ∧ (Instr.lookup 61 (.map (some nb)) (.agg #[.int .i64 i, .int .i64 g]) true).run Tryd.prog W' = .ok (.tuple #[.int .i64 x, .bool true]) W')
    (first | exact KK.out _ (Below.refl _ _).drew | exact KK.out _ (Below.refl _ _)) (fail)
  have c9 := HE.out _ (Below.refl _ _).drew
  go_wp2_with fail
  refine (AC.out _).mono ?_
  rintro e w3 ⟨t, q, rfl, hv, hb⟩
  have HV := hid hv
  have bd : Below w1.heap.size w1 w1.drew := (Below.refl _ _).drew
  have B3 := hid (B1.out.trans ((bd.trans (hb.mono bd.size)).mono B1.out.size))
  clear hv hb bd c9 AC KK HE
  go_wp2_with fail
  go_ret
  exact ⟨t, q, rfl, HV.out, B3.out⟩
end
section
variable {W1 w : World} {bb ob nb : Nat} {n : Int} {l : Prs} {fr : List (Nat × Obj)} {Ad : Nat → Addr}
theorem any_give (h : Bw W1 bb ob nb n l fr w) (hE : Env5 W1 Ad) (i g : Int) (hi : I64 i) (hg : I64 g) :
    Calls Tryd.prog 7 #[.pointer (some ⟨bb, 0, none⟩), .agg #[.int .i64 i, .int .i64 g]] w fun e w' => ∃ u r, e = .returned (.tuple #[u, r]) ∧ ∃ n' l', Bw W1 bb ob nb n' l' fr w' := by
  cases hn : num l (i, g) with
  | some x => exact (give_twice h.bg (h.env hE) i g hi hg hn).mono fun _ _ ⟨t, q, q1, _, q3⟩ => ⟨_, _, q1, n, l, h.later q3⟩
  | none =>
    by_cases hf : n ≤ 1073741824
    · exact (bw_give h i g hi hg hn hf).mono fun _ _ ⟨q1, q2, _⟩ => ⟨_, _, q1, _, _, q2⟩
    · exact (give_full h.bg (h.env hE) i g hi hg hn (by omega)).mono fun _ _ ⟨t, q, q1, _, q3⟩ => ⟨_, _, q1, n, l, h.later q3⟩
theorem any_pin (h : Bw W1 bb ob nb n l fr w) (hE : Env5 W1 Ad) (id i g : Int) (hd : I64 id) (hi : I64 i) (hg : I64 g) :
    Calls Tryd.prog 9 #[.pointer (some ⟨bb, 0, none⟩), .int .i64 id, .agg #[.int .i64 i, .int .i64 g]] w fun e w' => ∃ r, e = .returned r ∧ ∃ n' l', Bw W1 bb ob nb n' l' fr w' := by
  by_cases ha : id < 1 ∨ n ≤ id
  · exact (pin_arg h.bg (h.env hE) id i g ha).mono fun _ _ ⟨t, q, q1, _, q3⟩ => ⟨_, q1, n, l, h.later q3⟩
  · have h1 : 1 ≤ id := by omega
    have h2 : id < n := by omega
    cases hw : who l id with
    | none =>
      cases hn : num l (i, g) with
      | none => exact (bw_pin h id i g hi hg h1 h2 hw hn).mono fun _ _ ⟨q1, q2, _⟩ => ⟨_, q1, _, _, q2⟩
      | some y => exact (pin_sn (Ad := Ad) h.bg id i g h1 h2 [([bEnt], 9)] (by decide) (by simp) (fun W' hB _ => uno_none hB id hd hw) (fun W' hB hb => unn_top hB ((h.env hE).later hb) i g hi hg hn)).mono fun _ _ ⟨_, _, _, _, q1, _, _, q3⟩ => ⟨_, q1, n, l, h.later q3⟩
    | some x =>
      cases hn : num l (i, g) with
      | none => exact (pin_so (Ad := Ad) h.bg id i g h1 h2 [([bNum], 9)] (by decide) (by simp) (fun W' hB hb => uno_top hB ((h.env hE).later hb) id hd hw) (fun W' hB _ => unn_none hB i g hi hg hn)).mono fun _ _ ⟨_, _, _, _, q1, _, _, q3⟩ => ⟨_, q1, n, l, h.later q3⟩
      | some y => exact (pin_sb (Ad := Ad) h.bg id i g h1 h2 [([bNum], 9)] [([bEnt], 9)] (by decide) (by simp) (fun W' hB hb => uno_top hB ((h.env hE).later hb) id hd hw) (fun W' hB hb => unn_top hB ((h.env hE).later hb) i g hi hg hn)).mono fun _ _ ⟨_, _, _, _, q1, _, _, q3⟩ => ⟨_, q1, n, l, h.later q3⟩
theorem any_drop (h : Bw W1 bb ob nb n l fr w) (hE : Env5 W1 Ad) (id : Int) (hd : I64 id) :
    Calls Tryd.prog 11 #[.pointer (some ⟨bb, 0, none⟩), .int .i64 id] w fun e w' => ∃ u r, e = .returned (.tuple #[u, r]) ∧ ∃ n' l', Bw W1 bb ob nb n' l' fr w' := by
  cases hw : who l id with
  | none => exact (drop_none h.bg (h.env hE) id hd hw).mono fun _ _ ⟨t, q, q1, _, q3⟩ => ⟨_, _, q1, n, l, h.later q3⟩
  | some x => exact (bw_drop h id x.1 x.2 hd hw).mono fun _ _ ⟨q1, q2, _⟩ => ⟨_, _, q1, _, _, q2⟩
theorem any_turn (h : Bw W1 bb ob nb n l fr w) (hE : Env5 W1 Ad) (next : Int) :
    Calls Tryd.prog 13 #[.pointer (some ⟨bb, 0, none⟩), .int .i64 next] w fun e w' => ∃ u r, e = .returned (.tuple #[u, r]) ∧ ∃ n' l', Bw W1 bb ob nb n' l' fr w' := by
  cases ht : turnB l next with
  | false => exact (turn_arg h.bg (h.env hE) next ht).mono fun _ _ ⟨t, q, q1, _, q3⟩ => ⟨_, _, q1, n, l, h.later q3⟩
  | true => exact (bw_turn h next ht).mono fun _ _ ⟨q1, q2, _⟩ => ⟨_, _, q1, _, _, q2⟩
end
end Go.Proofs.YtiebbedpjogjfaaDoor.Bd
