/- New, At, Mask, With, Without. -/
import Derived.Test.YtmiaepjlifceeaaDoorAe
namespace Go.Proofs.YtmiaepjlifceeaaDoor
open Go.RowKit Go.Shelf Go.Maps
section
variable {B : Nat} {W W' : World} {rb : Nat} {s : AS} {S : Nat → Prop}
theorem atl_node (h : Atl B W rb s S) (m : Nat) (hm : m < 2 ^ s.n) :
    Calls Tryd.prog 27 #[.pointer (some ⟨rb, 0, none⟩), .int .u32 (m : Int)] W fun e W' => e = .returned (.int .i64 (s.l.idxOf m : Int)) ∧ Goes B rb (s.put m) S W W' := by
  obtain ⟨mb, sv, h1, h2⟩ := h
  by_cases hl : m ∈ s.l
  · refine (node_in h1 m hl).mono ?_
    rintro e w ⟨rfl, hb⟩
    have e1 : s.put m = s := by unfold AS.put add; rw [if_pos hl]
    refine ⟨rfl, ?_⟩
    rw [e1]
    exact Goes.stay ⟨mb, sv, h1, h2⟩ hb
  · refine (node_out h1 m hl hm).mono ?_
    rintro e w ⟨rfl, sv', h3, h4, h5⟩
    rw [List.idxOf_eq_length hl]
    refine ⟨rfl, _, ⟨mb, sv', h3, fun _ => Iff.rfl⟩, ⟨h5.os, h5.tape, h5.output, h5.size, fun k hk hn => h5.block k hk fun q => hn ((h2 k).2 q)⟩, fun x hx => ?_⟩
    rcases hx with hx | hx | hx
    · exact .inl ((h2 x).2 (.inl hx))
    · exact .inl ((h2 x).2 (.inr (.inl hx)))
    · rcases h4 with h4 | ⟨y, h4, h6⟩
      · exact .inl ((h2 x).2 (.inr (.inr (h4 ▸ hx))))
      · rw [h4] at hx; simp at hx; exact .inr (by omega)
end
theorem pow_sub (n : Nat) (h : n ≤ 16) : ((2 : Int) ^ n - 1) % 4294967296 = ((2 ^ n - 1 : Nat) : Int) := by
  have hp := pow_le h
  have hp0 : 0 < 2 ^ n := Nat.two_pow_pos n
  have e : (2 : Int) ^ n = ((2 ^ n : Nat) : Int) := (Int.natCast_pow 2 n).symm
  rw [e]
  generalize 2 ^ n = p at *
  omega
set_option maxHeartbeats 800000 in
set_option maxRecDepth 100000 in
theorem new_bad (Ad : Nat → Addr) (W : World) (hE : Env3 W Ad) (c : Int) (hc : c < 0 ∨ 16 < c) :
    Calls Tryd.prog 9 #[.int .i64 c] W fun e W' => ∃ t q, e = .returned (.tuple #[.pointer none, .iface t q]) ∧ Err Ad W' (.iface t q) 1 1 ∧ Below W.heap.size W W' := by
  have e1 := hE.c1
  have AC := hid (fun s => at_err Ad s _ 1 0 W (err_leaf Ad W 1 (by decide)))
  clear hE
  rcases hc with hc | hc
  · go_enter Tryd.func9, Tryd.ntmps9
    go_wp2_with fail
    refine (AC.out _).mono ?_
    rintro e w1 ⟨t, q, rfl, hv, hb⟩
    have HV := hid hv
    have HB := hid hb
    clear hv hb e1 AC
    go_wp2_with fail
    go_ret2
    exact ⟨t, q, rfl, HV.out, HB.out⟩
  · have h0 : ¬ (c < 0) := by omega
    go_enter Tryd.func9, Tryd.ntmps9
    go_wp2_with fail
    refine (AC.out _).mono ?_
    rintro e w1 ⟨t, q, rfl, hv, hb⟩
    have HV := hid hv
    have HB := hid hb
    clear hv hb e1 AC
    go_wp2_with fail
    go_ret2
    exact ⟨t, q, rfl, HV.out, HB.out⟩
set_option maxHeartbeats 800000 in
set_option maxRecDepth 100000 in
theorem new_ok (W : World) (n : Nat) (hn : n ≤ 16) :
    Calls Tryd.prog 9 #[.int .i64 (n : Int)] W fun e W' => ∃ rb S, e = .returned (.tuple #[.pointer (some ⟨rb, 0, none⟩), .nilIface]) ∧ Atl W.heap.size W' rb ⟨n, [0]⟩ S ∧ Below W.heap.size W W' := by
  have h2 : ¬ ((n : Int) < 0) := by omega
  have h3 : ¬ (16 < (n : Int)) := by omega
  have h4 : (n : Int) ≤ 32 := by omega
  have PS := hid (pow_sub n hn)
  have hmm := run_makeMap (P := Tryd.prog) 64
  have K : Hid (Atl W.heap.size ((W.alloc (.map #[] 0)).alloc (.cells #[.int .u32 ((2 ^ n - 1 : Nat) : Int), .slice none 0 0, .map (some W.heap.size)] 66)) (W.heap.size + 1) ⟨n, []⟩ (Ft (W.heap.size + 1) W.heap.size (.slice none 0 0)) ∧ Below W.heap.size W ((W.alloc (.map #[] 0)).alloc (.cells #[.int .u32 ((2 ^ n - 1 : Nat) : Int), .slice none 0 0, .map (some W.heap.size)] 66))) := by
    refine ⟨⟨W.heap.size, .slice none 0 0, ⟨?_, ?_, ?_, ⟨hn, by simp, by simp⟩, by omega⟩, fun _ => Iff.rfl⟩, (bAl W _).alloc (by simp) _⟩
    · have := heap_alloc_new (W.alloc (.map #[] 0)) (.cells #[.int .u32 ((2 ^ n - 1 : Nat) : Int), .slice none 0 0, .map (some W.heap.size)] 66)
      simpa using this
    · exact World.ownsRow_nil _ _ _ _
    · have := World.ownsMap_made W Tryd.prog 33 (plainElem (H := Unit) Tryd.prog 3)
      exact ⟨_, this.alloc _, fun i _ => ⟨rfl, rfl⟩, rfl⟩
  have hp0 : 0 < 2 ^ n := Nat.two_pow_pos n
  have NO : Hid (Calls Tryd.prog 27 #[.pointer (some ⟨W.heap.size + 1, 0, none⟩), .int .u32 0] ((W.alloc (.map #[] 0)).alloc (.cells #[.int .u32 ((2 ^ n - 1 : Nat) : Int), .slice none 0 0, .map (some W.heap.size)] 66)) fun e W' => e = .returned (.int .i64 0) ∧ Goes W.heap.size (W.heap.size + 1) ⟨n, [0]⟩ (Ft (W.heap.size + 1) W.heap.size (.slice none 0 0)) ((W.alloc (.map #[] 0)).alloc (.cells #[.int .u32 ((2 ^ n - 1 : Nat) : Int), .slice none 0 0, .map (some W.heap.size)] 66)) W') := atl_node K.out.1 0 hp0
  have BK := hid K.out.2
  clear K hn hp0
  go_enter Tryd.func9, Tryd.ntmps9
  go_wp2_with fail
  rw [PS.out]
  refine NO.out.mono ?_
  rintro e w1 ⟨rfl, S1, a1, s1, f1⟩
  have A1 := hid a1
  have B1 : Hid (Below W.heap.size W w1) := BK.out.trans (s1.below (fun k hk => by rcases hk with rfl | rfl | hk; omega; omega; cases hk) BK.out.size)
  clear NO a1 s1 f1 hmm
  go_wp2_with fail
  go_ret2
  exact ⟨_, S1, rfl, A1.out, B1.out⟩
set_option maxHeartbeats 800000 in
set_option maxRecDepth 100000 in
theorem at_nilp (Ad : Nat → Addr) (W : World) (hE : Env3 W Ad) (m : Int) :
    Calls Tryd.prog 12 #[.pointer none, .int .u32 m] W fun e W' => ∃ t q, e = .returned (.tuple #[.int .i64 0, .iface t q]) ∧ Err Ad W' (.iface t q) 2 1 ∧ Below W.heap.size W W' := by
  have e1 := hE.c2
  have AC := hid (fun s => at_err Ad s _ 2 0 W (err_leaf Ad W 2 (by decide)))
  clear hE
  go_enter Tryd.func12, Tryd.ntmps12
  go_wp2_with fail
  refine (AC.out _).mono ?_
  rintro e w1 ⟨t, q, rfl, hv, hb⟩
  have HV := hid hv
  have HB := hid hb
  clear hv hb e1 AC
  go_wp2_with fail
  go_ret2
  exact ⟨t, q, rfl, HV.out, HB.out⟩
section
variable {B : Nat} {W W' : World} {rb : Nat} {s : AS} {S : Nat → Prop}
theorem Atl.c0 (h : Atl B W rb s S) : W.cell? ⟨rb, 0, none⟩ = some (.int .u32 ((2 ^ s.n - 1 : Nat) : Int)) := by obtain ⟨mb, sv, h1, h2⟩ := h; exact h1.c0
theorem Atl.c1 (h : Atl B W rb s S) : ∃ a c, W.cell? ⟨rb, 1, none⟩ = some (.slice a s.l.length c) := by
  obtain ⟨mb, sv, h1, h2⟩ := h
  obtain ⟨a, c, rfl⟩ := own_slice h1.row
  exact ⟨a, c, h1.c1⟩
theorem Atl.cell (h : Atl B W rb s S) {i m : Nat} (hi : s.l[i]? = some m) : ∃ g cap, W.cell? ⟨rb, 1, none⟩ = some (.slice (some ⟨g, 0, none⟩) s.l.length cap) ∧ W.cell? ⟨g, i, none⟩ = some (.int .u32 (m : Int)) := by
  obtain ⟨mb, sv, h1, h2⟩ := h
  obtain ⟨g, cap, rfl, hc⟩ := h1.cell hi
  exact ⟨g, cap, h1.c1, hc⟩
theorem mask_lt (h : Atl B W rb s S) : 2 ^ s.n - 1 < 4294967296 := by have := pow_le h.ok.n16; omega
set_option maxHeartbeats 800000 in
set_option maxRecDepth 100000 in
theorem at_bad (Ad : Nat → Addr) (h : Atl B W rb s S) (hE : Env3 W Ad) (m : Nat) (hm32 : m < 4294967296) (hm : ¬ m < 2 ^ s.n) :
    Calls Tryd.prog 12 #[.pointer (some ⟨rb, 0, none⟩), .int .u32 (m : Int)] W fun e W' => ∃ t q, e = .returned (.tuple #[.int .i64 0, .iface t q]) ∧ Err Ad W' (.iface t q) 1 1 ∧ Below W.heap.size W W' := by
  have e1 := hE.c1
  have c0 := h.c0
  have WN := hid (within_nat m (2 ^ s.n - 1) hm32 (mask_lt h) W)
  rw [decide_eq_false (fun q => hm ((within_iff hm32 h.ok.n16).1 q))] at WN
  have AC := hid (fun s => at_err Ad s _ 1 0 W (err_leaf Ad W 1 (by decide)))
  clear hE h hm hm32
  go_enter Tryd.func12, Tryd.ntmps12
  go_wp2_with fail
  refine WN.out.mono ?_
  rintro e w1 ⟨rfl, rfl⟩
  clear WN
  go_wp2_with fail
  refine (AC.out _).mono ?_
  rintro e w1 ⟨t, q, rfl, hv, hb⟩
  have HV := hid hv
  have HB := hid hb
  clear hv hb e1 AC
  go_wp2_with fail
  go_ret2
  exact ⟨t, q, rfl, HV.out, HB.out⟩
set_option maxHeartbeats 800000 in
set_option maxRecDepth 100000 in
theorem at_ok (h : Atl B W rb s S) (m : Nat) (hm : m < 2 ^ s.n) :
    Calls Tryd.prog 12 #[.pointer (some ⟨rb, 0, none⟩), .int .u32 (m : Int)] W fun e W' => e = .returned (.tuple #[.int .i64 (s.l.idxOf m : Int), .nilIface]) ∧ Goes B rb (s.put m) S W W' := by
  have c0 := h.c0
  have hm32 : m < 4294967296 := by have := pow_le h.ok.n16; omega
  have WN := hid (within_nat m (2 ^ s.n - 1) hm32 (mask_lt h) W)
  rw [decide_eq_true ((within_iff hm32 h.ok.n16).2 hm)] at WN
  have NO := hid (atl_node h m hm)
  clear h hm hm32
  go_enter Tryd.func12, Tryd.ntmps12
  go_wp2_with fail
  refine WN.out.mono ?_
  rintro e w1 ⟨rfl, rfl⟩
  clear WN
  go_wp2_with fail
  refine NO.out.mono ?_
  rintro e w2 ⟨rfl, hg⟩
  have HG := hid hg
  clear NO hg
  go_wp2_with fail
  go_ret2
  exact ⟨rfl, HG.out⟩
end
end Go.Proofs.YtmiaepjlifceeaaDoor
