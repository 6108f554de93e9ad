/- Match; two rows of numbers that are the same. -/
import Derived.Test.YtmiaepjlifceeaaDoorAg
namespace Go.Proofs.YtmiaepjlifceeaaDoor
open Go.RowKit Go.Shelf Go.Maps
theorem drewN_below (W : World) (m : Nat) : Below W.heap.size W (W.drewN m) := by
  induction m generalizing W with
  | zero => exact Below.refl _ _
  | succ m ih => exact (ih W).drew
/-- A node's set has all of one set and none of another one. -/
def mtB (a b m : Nat) : Bool := decide (an a m = 0) && decide (m &&& b = 0)
/-- The nodes that match, among the first k. -/
def mtc (l : List Nat) (a b : Nat) : Nat → List Nat
  | 0 => []
  | k + 1 => match l[k]? with
    | some m => if mtB a b m = true then mtc l a b k ++ [k] else mtc l a b k
    | none => mtc l a b k
theorem mtc_next {l : List Nat} (a b : Nat) {k m : Nat} (h : l[k]? = some m) : mtc l a b (k + 1) = if mtB a b m = true then mtc l a b k ++ [k] else mtc l a b k := by
  simp only [mtc, h]
theorem mtc_len (l : List Nat) (a b k : Nat) : (mtc l a b k).length ≤ k := by
  induction k with
  | zero => simp [mtc]
  | succ k ih =>
    unfold mtc
    split
    · split
      · simp; omega
      · omega
    · omega
set_option maxHeartbeats 400000 in
theorem match_nil (a b : Int) (W : World) : Calls Tryd.prog 20 #[.pointer none, .int .u32 a, .int .u32 b] W fun e W' => e = .returned (.slice none 0 0) ∧ W' = W := by
  go_enter Tryd.func20, Tryd.ntmps20
  go_wp2_with fail
  go_ret
  exact ⟨rfl, rfl⟩
set_option maxHeartbeats 1600000 in
set_option maxRecDepth 100000 in
theorem match_any {B : Nat} {W : World} {rb : Nat} {s : AS} {S : Nat → Prop} (h : Atl B W rb s S) (a b : Nat) (ha : a < 4294967296) (hb : b < 4294967296) :
    Calls Tryd.prog 20 #[.pointer (some ⟨rb, 0, none⟩), .int .u32 (a : Int), .int .u32 (b : Int)] W fun e W' => ∃ v, e = .returned v ∧ Ints W.heap.size W' v (mtc s.l a b s.l.length) ∧ Below W.heap.size W W' := by
  have H := hid h
  obtain ⟨ga, gc, c1⟩ := h.c1
  have C1 := hid c1
  have hsm := h.ok.small
  have hsi : (s.l.length : Int) ≤ 65536 := by omega
  have HA := hid ha
  have HBb := hid hb
  clear h ha hb
  go_enter Tryd.func20, Tryd.ntmps20
  go_wp2_with fail
  go_loopw [7, 8, 9, 17] (fun lv _ _ i wr => ∃ k : Nat, k ≤ s.l.length ∧ i = .int .i64 (k : Int) ∧ Hid (Ints W.heap.size wr lv (mtc s.l a b k)) ∧ Hid (Below W.heap.size W wr)) (fun _ _ _ i _ => s.l.length - (intOf i).toNat)
  case atStart => exact ⟨0, Nat.zero_le _, rfl, World.ownsRow_nil _ _ _ _, Below.refl _ _⟩
  case round =>
    obtain ⟨k, hk, rfl, HL, HB⟩ := hrel
    by_cases hlt : k < s.l.length
    · have hki : (k : Int) < (s.l.length : Int) := by omega
      obtain ⟨m, hm⟩ := at_lt s.l k hlt
      have m32 := (H.out.u32 hm).2
      obtain ⟨g, rfl, d0⟩ : ∃ g, ga = some ⟨g, 0, none⟩ ∧ wr.cell? ⟨g, k, none⟩ = some (.int .u32 (m : Int)) := by
        obtain ⟨g, cap, e1, e2⟩ := H.out.cell hm
        rw [C1.out] at e1
        simp only [Option.some.injEq, Value.slice.injEq, true_and] at e1
        exact ⟨g, e1.1, seen HB.out (Nat.le_refl _) e2⟩
      have e2 := hid (mtc_next a b hm)
      have WN := hid (fun w => within_nat a m HA.out m32 w)
      have ba := hid (bits_and32 m b m32 HBb.out)
      have hul : (mtc s.l a b k).length ≤ 100000 := by have := mtc_len s.l a b k; omega
      have hw1 : W.heap.size ≤ wr.heap.size := HB.out.size
      obtain ⟨la, lc, rfl⟩ := Ints.slice HL.out
      unfold mtB at e2
      clear hm m32
      go_wp2_with fail
      refine (WN.out _).mono ?_
      rintro e w1 ⟨rfl, rfl⟩
      clear WN
      generalize decide (an a m = 0) = t1 at *
      cases t1 with
      | false =>
        rw [Bool.false_and, if_neg (by decide)] at e2
        go_wp2_with fail
        go_roundw
        case rel => exact ⟨k + 1, by omega, by go_num, by rw [e2.out]; exact HL.out, HB.out⟩
        case measure => simp [intOf]; omega
      | true =>
        rw [Bool.true_and] at e2
        by_cases hz : m &&& b = 0
        · have q : (bits .and .u32 (m : Int) (b : Int) == 0) = true := by rw [ba.out, hz]; rfl
          rw [decide_eq_true hz, if_pos rfl] at e2
          clear hz ba
          go_wp2_with (at_builtin; refine wpList_num rfl _ _ rfl HL.out hul hw1 rfl rfl ?_; intro v' w2 ho hst hat)
          have b2 : Hid (Below W.heap.size W w2) := HB.out.trans (hst.out.below (fun x hx => (World.ownsRow.lt HL.out x hx).1) hw1)
          go_roundw
          case rel => exact ⟨k + 1, by omega, by go_num, by rw [e2.out]; exact ho.out, b2.out⟩
          case measure => simp [intOf]; omega
        · have q : (bits .and .u32 (m : Int) (b : Int) == 0) = false := by rw [ba.out, cast_beq0]; exact decide_eq_false hz
          rw [decide_eq_false hz, if_neg (by decide)] at e2
          clear hz ba
          go_wp2_with fail
          go_roundw
          case rel => exact ⟨k + 1, by omega, by go_num, by rw [e2.out]; exact HL.out, HB.out⟩
          case measure => simp [intOf]; omega
    · have hki : ¬ ((k : Int) < (s.l.length : Int)) := by omega
      have e1 : Hid (k = s.l.length) := by show k = _; omega
      go_wp2_with fail
      go_ret
      exact ⟨_, rfl, by rw [← e1.out]; exact HL.out, HB.out⟩
set_option maxHeartbeats 1600000 in
set_option maxRecDepth 100000 in
theorem same_any {B B' : Nat} {W : World} {v u : Value} {l : List Nat} (h : Ints B W v l) (h' : Ints B' W u l) (hl : l.length ≤ 100000) :
    Calls Tryd.prog 19 #[v, u] W fun e W' => e = .returned (.bool true) ∧ Below W.heap.size W W' := by
  obtain ⟨va, vc, rfl⟩ := h.slice
  obtain ⟨ua, uc, rfl⟩ := h'.slice
  have H := hid h
  have H' := hid h'
  have hli : (l.length : Int) ≤ 100000 := by omega
  clear h h'
  go_enter Tryd.func19, Tryd.ntmps19
  go_wp2_with fail
  go_loopw [5] (fun i wr => ∃ k : Nat, k ≤ l.length ∧ i = .int .i64 (k : Int) ∧ Hid (Below W.heap.size W wr)) (fun i _ => l.length - (intOf i).toNat)
  case atStart => exact ⟨0, Nat.zero_le _, rfl, Below.refl _ _⟩
  case round =>
    obtain ⟨k, hk, rfl, HB⟩ := hrel
    by_cases hlt : k < l.length
    · have hki : (k : Int) < (l.length : Int) := by omega
      obtain ⟨g, rfl, -, -⟩ := H.out.some (by omega)
      obtain ⟨g', rfl, -, -⟩ := H'.out.some (by omega)
      obtain ⟨p, hp⟩ := at_lt l k hlt
      have d0 := (H.out.later HB.out).cell hp
      have f0 := (H'.out.later HB.out).cell hp
      clear hp
      go_wp2_with fail
      go_quiet (fail)
      go_wp2_with fail
      exact ⟨⟨k + 1, by omega, by go_num, HB.out.trans ((drewN_below _ _).mono HB.out.size)⟩, by simp [intOf]; omega⟩
    · have hki : ¬ ((k : Int) < (l.length : Int)) := by omega
      go_wp2_with fail
      go_ret
      exact ⟨rfl, HB.out⟩
end Go.Proofs.YtmiaepjlifceeaaDoor
