/- The document's Turn, Match. -/
import Derived.Test.YtmiaepjlifceeaaDoorCa
namespace Go.Proofs.YtmiaepjlifceeaaDoor
open Go.RowKit Go.Shelf Go.Maps
theorem wi_wo (m c : Nat) (hm : m < 65536) (hc : c < 16) : wi (wo m c) c = wi m c := by
  refine Nat.eq_of_testBit_eq fun i => ?_
  rw [wi_bit, wi_bit, wo_bit _ _ _ (by omega) (by omega)]
  by_cases e : c = i <;> simp [e]
theorem pow_bits (c : Nat) (hc : c < 16) : ((2 : Int) ^ c % 4294967296) = ((2 ^ c : Nat) : Int) := by
  have := bitI_in c (by omega)
  unfold bitI at this
  rw [if_pos (by omega), Int.toNat_natCast] at this
  exact this
theorem and_sub (a m : Nat) (ha : a < 4294967296) (hm : m < 4294967296) : m &&& a = a ↔ an a m = 0 := by
  constructor
  · intro h
    refine Nat.eq_of_testBit_eq fun i => ?_
    have := congrArg (fun t => t.testBit i) h
    simp only [Nat.testBit_and] at this
    rw [an_bit a m i ha hm, Nat.zero_testBit]
    cases hx : a.testBit i <;> cases hy : m.testBit i <;> simp_all
  · intro h
    refine Nat.eq_of_testBit_eq fun i => ?_
    have := an_bit a m i ha hm
    rw [h, Nat.zero_testBit] at this
    rw [Nat.testBit_and]
    cases hx : a.testBit i <;> cases hy : m.testBit i <;> simp_all
section
variable {B : Nat} {W W' : World} {ub : Nat} {s : AS} {U : Nat → Prop}
set_option maxHeartbeats 800000 in
set_option maxRecDepth 100000 in
theorem rturn_none (h : Rer B W ub s U) (i c : Int) (b : Bool) (hi : i < 0 ∨ (s.l.length : Int) ≤ i) :
    Calls Tryd.prog 16 #[.pointer (some ⟨ub, 0, none⟩), .int .i64 i, .int .i64 c, .bool b] W fun e W' => e = .returned (.tuple #[.int .i64 0, .int .i64 7]) ∧ Below W.heap.size W W' := by
  obtain ⟨la, lc, c1⟩ := h.c1
  clear h
  rcases hi with hi | hi
  · go_enter Tryd.func16, Tryd.ntmps16
    go_wp2_with fail
    go_ret2
    exact ⟨rfl, Below.refl _ _⟩
  · have h0 : ¬ (i < 0) := by omega
    go_enter Tryd.func16, Tryd.ntmps16
    go_wp2_with fail
    go_ret2
    exact ⟨rfl, Below.refl _ _⟩
set_option maxHeartbeats 800000 in
set_option maxRecDepth 100000 in
theorem rturn_comp (h : Rer B W ub s U) (i : Nat) (hi : i < s.l.length) (c : Int) (b : Bool) (hc : ¬ (0 ≤ c ∧ c < s.n)) :
    Calls Tryd.prog 16 #[.pointer (some ⟨ub, 0, none⟩), .int .i64 (i : Int), .int .i64 c, .bool b] W fun e W' => e = .returned (.tuple #[.int .i64 0, .int .i64 1]) ∧ Below W.heap.size W W' := by
  obtain ⟨la, lc, c1⟩ := h.c1
  have c0 := h.c0
  have h0 : ¬ ((i : Int) < 0) := by omega
  have h1 : ¬ ((s.l.length : Int) ≤ (i : Int)) := by omega
  clear h
  by_cases h2 : c < 0
  · clear hc
    go_enter Tryd.func16, Tryd.ntmps16
    go_wp2_with fail
    go_ret2
    exact ⟨rfl, Below.refl _ _⟩
  · have h3 : (s.n : Int) ≤ c := by omega
    clear hc
    go_enter Tryd.func16, Tryd.ntmps16
    go_wp2_with fail
    go_ret2
    exact ⟨rfl, Below.refl _ _⟩
/-- A set with a component more, or less. -/
def turnM (b : Bool) (m c : Nat) : Nat := if b then wi m c else wo m c
set_option maxHeartbeats 1600000 in
set_option maxRecDepth 100000 in
theorem rturn_ok (h : Rer B W ub s U) (i m : Nat) (hi : s.l[i]? = some m) (c : Nat) (hc : c < s.n) (b : Bool) :
    Calls Tryd.prog 16 #[.pointer (some ⟨ub, 0, none⟩), .int .i64 (i : Int), .int .i64 (c : Int), .bool b] W fun e W' => e = .returned (.tuple #[.int .i64 (s.l.idxOf (turnM b m c) : Int), .int .i64 0]) ∧ Rgo B ub (s.put (turnM b m c)) U W W' := by
  obtain ⟨la, lc, c1⟩ := h.c1
  have c0 := h.c0
  have hl := (List.getElem?_eq_some_iff.1 hi).1
  obtain ⟨g, rfl, d0⟩ := h.cell c1 hi
  have hn := h.ok.n16
  have hm := h.u32 hi
  have hm16 : m < 65536 := h.ok.u16 (List.mem_of_getElem? hi)
  have hsm : (s.l.length : Int) ≤ 65536 := by have := h.ok.small; omega
  have h0 : ¬ ((i : Int) < 0) := by omega
  have h1 : ¬ ((s.l.length : Int) ≤ (i : Int)) := by omega
  have h2 : ¬ ((c : Int) < 0) := by omega
  have h3 : ¬ ((s.n : Int) ≤ (c : Int)) := by omega
  have h4 : (c : Int) ≤ 32 := by omega
  have hli : (i : Int) < (s.l.length : Int) := by omega
  have PB := hid (pow_bits c (by omega))
  have e1 : Hid (bits .andNot .u32 (m : Int) (2 ^ c % 4294967296) = ((wo m c : Nat) : Int)) := by
    show _ = _
    rw [PB.out, bits_an32 m _ hm.2 (pow32 (by omega))]; rfl
  have w16 : wo m c < 65536 := Nat.lt_of_le_of_lt (an_le _ _) hm16
  have e2 : Hid (bits .or .u32 ((wo m c : Nat) : Int) (2 ^ c % 4294967296) = ((wi m c : Nat) : Int)) := by
    show _ = _
    rw [PB.out, bits_or32 _ _ (by omega) (pow32 (by omega)), ← wi_wo m c hm16 (by omega)]; rfl
  have AD : Hid (∀ k, Calls Tryd.prog 13 #[.pointer (some ⟨ub, 0, none⟩), .int .u32 ((turnM b m c : Nat) : Int)] (W.drewN k) fun e W' => e = .returned (.tuple #[.int .i64 (s.l.idxOf (turnM b m c) : Int), .int .i64 0]) ∧ Rgo B ub (s.put (turnM b m c)) U W W') := fun k => by
    refine (rat_ok (h.later (drewN_below W k)) (turnM b m c) (by unfold turnM; split; exact wi_lt hm.1 hc; exact wo_lt hm.1)).mono ?_
    rintro e W' ⟨he, U', r, st, f⟩
    have hz : (W.drewN k).heap = W.heap := by
      have := drewN_below W k
      exact World.heap_drewN W k
    exact ⟨he, U', r, (St.of_below (S := U) (drewN_below W k)).trans st fun _ _ q => q, fun x hx => by rw [← hz]; exact f x hx⟩
  clear h hi hm hm16 w16
  cases b with
  | true =>
    unfold turnM at AD ⊢
    simp only [if_true] at AD ⊢
    go_enter Tryd.func16, Tryd.ntmps16
    go_wp2_with fail
    go_quiet (fail)
    rw [e1.out]
    generalize wo m c = mo at *
    go_wp2_with fail
    rw [e2.out]
    refine (AD.out _).mono ?_
    rintro e w1 ⟨rfl, hg⟩
    have HG := hid hg
    clear hg AD
    go_wp2_with fail
    go_ret2
    exact ⟨rfl, HG.out⟩
  | false =>
    unfold turnM at AD ⊢
    simp only [Bool.false_eq_true, if_false] at AD ⊢
    go_enter Tryd.func16, Tryd.ntmps16
    go_wp2_with fail
    go_quiet (fail)
    rw [e1.out]
    clear e1 e2
    go_wp2_with fail
    refine (AD.out _).mono ?_
    rintro e w1 ⟨rfl, hg⟩
    have HG := hid hg
    clear hg AD
    go_wp2_with fail
    go_ret2
    exact ⟨rfl, HG.out⟩
set_option maxHeartbeats 1600000 in
set_option maxRecDepth 100000 in
theorem rmatch_any (h : Rer B W ub s U) (a b : Nat) (ha : a < 4294967296) (hb : b < 4294967296) :
    Calls Tryd.prog 21 #[.pointer (some ⟨ub, 0, none⟩), .int .u32 (a : Int), .int .u32 (b : Int)] W fun e W' => ∃ v, e = .returned v ∧ Ints W.heap.size W' v (mtc s.l a b s.l.length) ∧ Below W.heap.size W W' := by
  have H := hid h
  obtain ⟨ga, gc, c1⟩ := h.c1
  have C1 := hid c1
  have hsm := h.ok.small
  have hsi : (s.l.length : Int) ≤ 65536 := by omega
  have HA := hid ha
  have HBb := hid hb
  have I0 : Hid (Ints W.heap.size (W.alloc (.cells #[] 3)) (.slice (some ⟨W.heap.size, 0, none⟩) 0 0) []) := World.ownsRow_lit (base := W.heap.size) (e := 3) (size := 1) W #[] 0 (Nat.le_refl _) (Nat.zero_le _) rfl
  clear h ha hb c1
  go_enter Tryd.func21, Tryd.ntmps21
  go_wp2_with fail
  go_loopg [7, 8] s.l.length (fun gh lv i wr => ∃ k : Nat, k ≤ s.l.length ∧ gh = s.l.length - k ∧ i = .int .i64 (k : Int) ∧ Hid (Ints W.heap.size wr lv (mtc s.l a b k)) ∧ Hid (Below W.heap.size W wr))
  case atStart => exact ⟨0, Nat.zero_le _, rfl, rfl, I0.out, bAl _ _⟩
  case round =>
    clear I0
    rename World => wr
    obtain ⟨k, hk, rfl, rfl, HL, HB⟩ := hrel
    have c1 := seen HB.out (Nat.le_refl _) C1.out
    by_cases hlt : k < s.l.length
    · have hki : (k : Int) < (s.l.length : Int) := by omega
      obtain ⟨m, hm⟩ := at_lt s.l k hlt
      have m32 := (H.out.u32 hm).2
      obtain ⟨g, rfl, d0⟩ := (H.out.later HB.out).cell c1 hm
      have e2 := hid (mtc_next a b hm)
      have ba := hid (bits_and32 m b m32 HBb.out)
      have bw := hid (bits_and32 m a m32 HA.out)
      have SB := hid (and_sub a m HA.out m32)
      have hul : (mtc s.l a b k).length ≤ 100000 := by have := mtc_len s.l a b k; omega
      have hw1 : W.heap.size ≤ wr.heap.size := HB.out.size
      obtain ⟨la, lc, rfl⟩ := Ints.slice HL.out
      unfold mtB at e2
      clear hm m32
      by_cases h1 : an a m = 0
      · have q1 : bits .and .u32 (m : Int) (a : Int) = (a : Int) := by rw [bw.out, SB.out.2 h1]
        rw [decide_eq_true h1, Bool.true_and] at e2
        by_cases hz : m &&& b = 0
        · have q : bits .and .u32 (m : Int) (b : Int) = 0 := by rw [ba.out, hz]; rfl
          rw [decide_eq_true hz, if_pos rfl] at e2
          clear hz ba bw SB h1
          go_wp2_with (at_builtin; refine wpList_num rfl _ _ rfl HL.out hul hw1 rfl rfl ?_; intro v' w2 ho hst hat)
          have b2 : Hid (Below W.heap.size W w2) := HB.out.trans (hst.out.below (fun x hx => (World.ownsRow.lt HL.out x hx).1) hw1)
          go_roundg (s.l.length - (k + 1))
          case measure => omega
          case rel => exact ⟨k + 1, by omega, rfl, by go_num, by rw [e2.out]; exact ho.out, b2.out⟩
        · have q : (bits .and .u32 (m : Int) (b : Int) == 0) = false := by rw [ba.out, cast_beq0]; exact decide_eq_false hz
          rw [decide_eq_false hz, if_neg (by decide)] at e2
          clear hz ba bw SB h1
          go_wp2_with fail
          go_roundg (s.l.length - (k + 1))
          case measure => omega
          case rel => exact ⟨k + 1, by omega, rfl, by go_num, by rw [e2.out]; exact HL.out, HB.out⟩
      · have q1 : (bits .and .u32 (m : Int) (a : Int) == (a : Int)) = false := by
          rw [bw.out, beq_eq_false_iff_ne]
          intro q
          exact h1 (SB.out.1 (by exact_mod_cast q))
        rw [decide_eq_false h1, Bool.false_and, if_neg (by decide)] at e2
        clear ba bw SB h1
        go_wp2_with fail
        go_roundg (s.l.length - (k + 1))
        case measure => omega
        case rel => exact ⟨k + 1, by omega, rfl, by go_num, by rw [e2.out]; exact HL.out, HB.out⟩
    · have hki : ¬ ((k : Int) < (s.l.length : Int)) := by omega
      have e1 : Hid (k = s.l.length) := by show k = _; omega
      go_wp2_with fail
      go_ret
      exact ⟨_, rfl, by rw [← e1.out]; exact HL.out, HB.out⟩
end
end Go.Proofs.YtmiaepjlifceeaaDoor
