/- Mask; With, Without and where they begin. -/
import Derived.Test.YtmiaepjlifceeaaDoorAf
namespace Go.Proofs.YtmiaepjlifceeaaDoor
open Go.RowKit Go.Shelf Go.Maps
set_option maxHeartbeats 800000 in
set_option maxRecDepth 100000 in
theorem mask_nilp (Ad : Nat → Addr) (W : World) (hE : Env3 W Ad) (i : Int) :
    Calls Tryd.prog 23 #[.pointer none, .int .i64 i] W fun e W' => ∃ t q, e = .returned (.tuple #[.int .u32 0, .iface t q]) ∧ Err Ad W' (.iface t q) 2 1 ∧ Below W.heap.size W W' := by
  have e1 := hE.c2
  have AC := hid (fun s => at_err Ad s _ 2 0 W (err_leaf Ad W 2 (by decide)))
  clear hE
  go_enter Tryd.func23, Tryd.ntmps23
  go_wp2_with fail
  refine (AC.out _).mono ?_
  rintro e w1 ⟨t, q, rfl, hv, hb⟩
  have HV := hid hv
  have HB := hid hb
  clear hv hb e1 AC
  go_wp2_with fail
  go_ret2
  exact ⟨t, q, rfl, HV.out, HB.out⟩
section
variable {B : Nat} {W W' : World} {rb : Nat} {s : AS} {S : Nat → Prop}
set_option maxHeartbeats 800000 in
set_option maxRecDepth 100000 in
theorem mask_none (Ad : Nat → Addr) (h : Atl B W rb s S) (hE : Env3 W Ad) (i : Int) (hi : i < 0 ∨ (s.l.length : Int) ≤ i) :
    Calls Tryd.prog 23 #[.pointer (some ⟨rb, 0, none⟩), .int .i64 i] W fun e W' => ∃ t q, e = .returned (.tuple #[.int .u32 0, .iface t q]) ∧ Err Ad W' (.iface t q) 7 1 ∧ Below W.heap.size W W' := by
  have e1 := hE.c7
  obtain ⟨a, c, c1⟩ := h.c1
  have AC := hid (fun s => at_err Ad s _ 7 0 W (err_leaf Ad W 7 (by decide)))
  clear hE h
  rcases hi with hi | hi
  · go_enter Tryd.func23, Tryd.ntmps23
    go_wp2_with fail
    refine (AC.out _).mono ?_
    rintro e w1 ⟨t, q, rfl, hv, hb⟩
    have HV := hid hv
    have HB := hid hb
    clear hv hb e1 AC
    go_wp2_with fail
    go_ret2
    exact ⟨t, q, rfl, HV.out, HB.out⟩
  · have h0 : ¬ (i < 0) := by omega
    go_enter Tryd.func23, Tryd.ntmps23
    go_wp2_with fail
    refine (AC.out _).mono ?_
    rintro e w1 ⟨t, q, rfl, hv, hb⟩
    have HV := hid hv
    have HB := hid hb
    clear hv hb e1 AC
    go_wp2_with fail
    go_ret2
    exact ⟨t, q, rfl, HV.out, HB.out⟩
set_option maxHeartbeats 800000 in
set_option maxRecDepth 100000 in
theorem mask_some (h : Atl B W rb s S) (i m : Nat) (hi : s.l[i]? = some m) :
    Calls Tryd.prog 23 #[.pointer (some ⟨rb, 0, none⟩), .int .i64 (i : Int)] W fun e W' => e = .returned (.tuple #[.int .u32 (m : Int), .nilIface]) ∧ W' = W := by
  obtain ⟨g, c, c1, d0⟩ := h.cell hi
  have hl := (List.getElem?_eq_some_iff.1 hi).1
  have h0 : ¬ ((i : Int) < 0) := by omega
  have h1 : ¬ ((s.l.length : Int) ≤ (i : Int)) := by omega
  have hsm : (s.l.length : Int) ≤ 65536 := by have := h.ok.small; omega
  clear h hi
  go_enter Tryd.func23, Tryd.ntmps23
  go_wp2_with fail
  go_ret2
  exact ⟨rfl, rfl⟩
set_option maxHeartbeats 800000 in
set_option maxRecDepth 100000 in
theorem origin_none (Ad : Nat → Addr) (h : Atl B W rb s S) (hE : Env3 W Ad) (i c : Int) (hi : i < 0 ∨ (s.l.length : Int) ≤ i) :
    Calls Tryd.prog 35 #[.pointer (some ⟨rb, 0, none⟩), .int .i64 i, .int .i64 c] W fun e W' => ∃ t q, e = .returned (.tuple #[.int .u32 0, .iface t q]) ∧ Err Ad W' (.iface t q) 7 1 ∧ Below W.heap.size W W' := by
  have MN := hid (mask_none Ad h hE i hi)
  clear hE h hi
  go_enter Tryd.func35, Tryd.ntmps35
  go_wp2_with fail
  refine MN.out.mono ?_
  rintro e w1 ⟨t, q, rfl, hv, hb⟩
  have HV := hid hv
  have HB := hid hb
  clear hv hb MN
  go_wp2_with fail
  go_ret2
  exact ⟨t, q, rfl, HV.out, HB.out⟩
set_option maxHeartbeats 800000 in
set_option maxRecDepth 100000 in
theorem origin_comp (Ad : Nat → Addr) (h : Atl B W rb s S) (hE : Env3 W Ad) (i m : Nat) (hi : s.l[i]? = some m) (c : Int) (hc : ¬ (0 ≤ c ∧ c < s.n)) :
    Calls Tryd.prog 35 #[.pointer (some ⟨rb, 0, none⟩), .int .i64 (i : Int), .int .i64 c] W fun e W' => ∃ t q, e = .returned (.tuple #[.int .u32 0, .iface t q]) ∧ Err Ad W' (.iface t q) 1 1 ∧ Below W.heap.size W W' := by
  have MS := hid (mask_some h i m hi)
  have e1 := hE.c1
  have c0 := h.c0
  have SA := hid (sethas_all s.n h.ok.n16 c W)
  rw [decide_eq_false hc] at SA
  have AC := hid (fun s => at_err Ad s _ 1 0 W (err_leaf Ad W 1 (by decide)))
  clear hE h hi hc
  go_enter Tryd.func35, Tryd.ntmps35
  go_wp2_with fail
  refine MS.out.mono ?_
  rintro e w1 ⟨rfl, rfl⟩
  clear MS
  go_wp2_with fail
  refine SA.out.mono ?_
  rintro e w2 ⟨rfl, rfl⟩
  clear SA
  go_wp2_with fail
  refine (AC.out _).mono ?_
  rintro e w1 ⟨t, q, rfl, hv, hb⟩
  have HV := hid hv
  have HB := hid hb
  clear hv hb e1 AC
  go_wp2_with fail
  go_ret2
  exact ⟨t, q, rfl, HV.out, HB.out⟩
set_option maxHeartbeats 800000 in
set_option maxRecDepth 100000 in
theorem origin_ok (h : Atl B W rb s S) (i m : Nat) (hi : s.l[i]? = some m) (c : Nat) (hc : c < s.n) :
    Calls Tryd.prog 35 #[.pointer (some ⟨rb, 0, none⟩), .int .i64 (i : Int), .int .i64 (c : Int)] W fun e W' => e = .returned (.tuple #[.int .u32 (m : Int), .nilIface]) ∧ W' = W := by
  have MS := hid (mask_some h i m hi)
  have c0 := h.c0
  have SA := hid (sethas_all s.n h.ok.n16 (c : Int) W)
  rw [decide_eq_true (by omega)] at SA
  clear h hi hc
  go_enter Tryd.func35, Tryd.ntmps35
  go_wp2_with fail
  refine MS.out.mono ?_
  rintro e w1 ⟨rfl, rfl⟩
  clear MS
  go_wp2_with fail
  refine SA.out.mono ?_
  rintro e w2 ⟨rfl, rfl⟩
  clear SA
  go_wp2_with fail
  go_ret2
  exact ⟨rfl, rfl⟩
set_option maxHeartbeats 800000 in
set_option maxRecDepth 100000 in
theorem awith_none (Ad : Nat → Addr) (h : Atl B W rb s S) (hE : Env3 W Ad) (i c : Int) (hi : i < 0 ∨ (s.l.length : Int) ≤ i) :
    Calls Tryd.prog 24 #[.pointer (some ⟨rb, 0, none⟩), .int .i64 i, .int .i64 c] W fun e W' => ∃ t q, e = .returned (.tuple #[.int .i64 0, .iface t q]) ∧ Err Ad W' (.iface t q) 7 2 ∧ Below W.heap.size W W' := by
  have OR := hid (origin_none Ad h hE i c hi)
  have AC := hid (fun s v w h => at_err Ad s v 7 1 w h)
  clear hE h hi
  go_enter Tryd.func24, Tryd.ntmps24
  go_wp2_with fail
  refine OR.out.mono ?_
  rintro e w1 ⟨t, q, rfl, hv, hb⟩
  have HV := hid hv
  have HB := hid hb
  clear hv hb OR
  go_wp2_with fail
  refine (AC.out _ _ _ HV.out).mono ?_
  rintro e w2 ⟨t2, q2, rfl, hv2, hb2⟩
  have HV2 := hid hv2
  have HB2 := hid (HB.out.trans (hb2.mono HB.out.size))
  clear hv2 hb2 AC
  go_wp2_with fail
  go_ret2
  exact ⟨t2, q2, rfl, HV2.out, HB2.out⟩
set_option maxHeartbeats 800000 in
set_option maxRecDepth 100000 in
theorem awithout_none (Ad : Nat → Addr) (h : Atl B W rb s S) (hE : Env3 W Ad) (i c : Int) (hi : i < 0 ∨ (s.l.length : Int) ≤ i) :
    Calls Tryd.prog 25 #[.pointer (some ⟨rb, 0, none⟩), .int .i64 i, .int .i64 c] W fun e W' => ∃ t q, e = .returned (.tuple #[.int .i64 0, .iface t q]) ∧ Err Ad W' (.iface t q) 7 2 ∧ Below W.heap.size W W' := by
  have OR := hid (origin_none Ad h hE i c hi)
  have AC := hid (fun s v w h => at_err Ad s v 7 1 w h)
  clear hE h hi
  go_enter Tryd.func25, Tryd.ntmps25
  go_wp2_with fail
  refine OR.out.mono ?_
  rintro e w1 ⟨t, q, rfl, hv, hb⟩
  have HV := hid hv
  have HB := hid hb
  clear hv hb OR
  go_wp2_with fail
  refine (AC.out _ _ _ HV.out).mono ?_
  rintro e w2 ⟨t2, q2, rfl, hv2, hb2⟩
  have HV2 := hid hv2
  have HB2 := hid (HB.out.trans (hb2.mono HB.out.size))
  clear hv2 hb2 AC
  go_wp2_with fail
  go_ret2
  exact ⟨t2, q2, rfl, HV2.out, HB2.out⟩
set_option maxHeartbeats 800000 in
set_option maxRecDepth 100000 in
theorem awith_comp (Ad : Nat → Addr) (h : Atl B W rb s S) (hE : Env3 W Ad) (i m : Nat) (hi : s.l[i]? = some m) (c : Int) (hc : ¬ (0 ≤ c ∧ c < s.n)) :
    Calls Tryd.prog 24 #[.pointer (some ⟨rb, 0, none⟩), .int .i64 (i : Int), .int .i64 c] W fun e W' => ∃ t q, e = .returned (.tuple #[.int .i64 0, .iface t q]) ∧ Err Ad W' (.iface t q) 1 2 ∧ Below W.heap.size W W' := by
  have OR := hid (origin_comp Ad h hE i m hi c hc)
  have AC := hid (fun s v w h => at_err Ad s v 1 1 w h)
  clear hE h hi hc
  go_enter Tryd.func24, Tryd.ntmps24
  go_wp2_with fail
  refine OR.out.mono ?_
  rintro e w1 ⟨t, q, rfl, hv, hb⟩
  have HV := hid hv
  have HB := hid hb
  clear hv hb OR
  go_wp2_with fail
  refine (AC.out _ _ _ HV.out).mono ?_
  rintro e w2 ⟨t2, q2, rfl, hv2, hb2⟩
  have HV2 := hid hv2
  have HB2 := hid (HB.out.trans (hb2.mono HB.out.size))
  clear hv2 hb2 AC
  go_wp2_with fail
  go_ret2
  exact ⟨t2, q2, rfl, HV2.out, HB2.out⟩
set_option maxHeartbeats 800000 in
set_option maxRecDepth 100000 in
theorem awithout_comp (Ad : Nat → Addr) (h : Atl B W rb s S) (hE : Env3 W Ad) (i m : Nat) (hi : s.l[i]? = some m) (c : Int) (hc : ¬ (0 ≤ c ∧ c < s.n)) :
    Calls Tryd.prog 25 #[.pointer (some ⟨rb, 0, none⟩), .int .i64 (i : Int), .int .i64 c] W fun e W' => ∃ t q, e = .returned (.tuple #[.int .i64 0, .iface t q]) ∧ Err Ad W' (.iface t q) 1 2 ∧ Below W.heap.size W W' := by
  have OR := hid (origin_comp Ad h hE i m hi c hc)
  have AC := hid (fun s v w h => at_err Ad s v 1 1 w h)
  clear hE h hi hc
  go_enter Tryd.func25, Tryd.ntmps25
  go_wp2_with fail
  refine OR.out.mono ?_
  rintro e w1 ⟨t, q, rfl, hv, hb⟩
  have HV := hid hv
  have HB := hid hb
  clear hv hb OR
  go_wp2_with fail
  refine (AC.out _ _ _ HV.out).mono ?_
  rintro e w2 ⟨t2, q2, rfl, hv2, hb2⟩
  have HV2 := hid hv2
  have HB2 := hid (HB.out.trans (hb2.mono HB.out.size))
  clear hv2 hb2 AC
  go_wp2_with fail
  go_ret2
  exact ⟨t2, q2, rfl, HV2.out, HB2.out⟩
theorem Atl.u32 (h : Atl B W rb s S) {i m : Nat} (hi : s.l[i]? = some m) : m < 2 ^ s.n ∧ m < 4294967296 := by
  have := h.ok.lt m (List.mem_of_getElem? hi)
  have := h.ok.u16 (List.mem_of_getElem? hi)
  exact ⟨by assumption, by omega⟩
set_option maxHeartbeats 800000 in
set_option maxRecDepth 100000 in
theorem awith_ok (h : Atl B W rb s S) (i m : Nat) (hi : s.l[i]? = some m) (c : Nat) (hc : c < s.n) :
    Calls Tryd.prog 24 #[.pointer (some ⟨rb, 0, none⟩), .int .i64 (i : Int), .int .i64 (c : Int)] W fun e W' => e = .returned (.tuple #[.int .i64 (s.l.idxOf (wi m c) : Int), .nilIface]) ∧ Goes B rb (s.put (wi m c)) S W W' := by
  have OR := hid (origin_ok h i m hi c hc)
  have hn := h.ok.n16
  have WI := hid (with_in m c (h.u32 hi).2 (by omega) W)
  have NO := hid (atl_node h (wi m c) (wi_lt (h.u32 hi).1 hc))
  clear h hi hc hn
  generalize wi m c = m' at *
  go_enter Tryd.func24, Tryd.ntmps24
  go_wp2_with fail
  refine OR.out.mono ?_
  rintro e w1 ⟨rfl, rfl⟩
  clear OR
  go_wp2_with fail
  refine WI.out.mono ?_
  rintro e w2 ⟨rfl, rfl⟩
  clear WI
  go_wp2_with fail
  refine NO.out.mono ?_
  rintro e w3 ⟨rfl, hg⟩
  have HG := hid hg
  clear NO hg
  go_wp2_with fail
  go_ret2
  exact ⟨rfl, HG.out⟩
set_option maxHeartbeats 800000 in
set_option maxRecDepth 100000 in
theorem awithout_ok (h : Atl B W rb s S) (i m : Nat) (hi : s.l[i]? = some m) (c : Nat) (hc : c < s.n) :
    Calls Tryd.prog 25 #[.pointer (some ⟨rb, 0, none⟩), .int .i64 (i : Int), .int .i64 (c : Int)] W fun e W' => e = .returned (.tuple #[.int .i64 (s.l.idxOf (wo m c) : Int), .nilIface]) ∧ Goes B rb (s.put (wo m c)) S W W' := by
  have OR := hid (origin_ok h i m hi c hc)
  have hn := h.ok.n16
  have WI := hid (without_in m c (h.u32 hi).2 (by omega) W)
  have NO := hid (atl_node h (wo m c) (wo_lt (h.u32 hi).1))
  clear h hi hc hn
  generalize wo m c = m' at *
  go_enter Tryd.func25, Tryd.ntmps25
  go_wp2_with fail
  refine OR.out.mono ?_
  rintro e w1 ⟨rfl, rfl⟩
  clear OR
  go_wp2_with fail
  refine WI.out.mono ?_
  rintro e w2 ⟨rfl, rfl⟩
  clear WI
  go_wp2_with fail
  refine NO.out.mono ?_
  rintro e w3 ⟨rfl, hg⟩
  have HG := hid hg
  clear NO hg
  go_wp2_with fail
  go_ret2
  exact ⟨rfl, HG.out⟩
end
end Go.Proofs.YtmiaepjlifceeaaDoor
