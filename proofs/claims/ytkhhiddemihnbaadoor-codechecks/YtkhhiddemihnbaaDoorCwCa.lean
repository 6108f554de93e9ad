/- The schema in memory; isSet, isShown, unless. -/
import Derived.Test.YtkhhiddemihnbaaDoorCwBf
namespace Go.Proofs.YtkhhiddemihnbaaDoor.Cw
open Go.RowKit Go.Shelf
def CmpRow (W : World) (v : Value) (cs : List Cmp) : Prop := ∃ a c, v = .slice a cs.length c ∧ cs.length ≤ c ∧ (cs = [] ∨ ∃ b o, a = some ⟨b, o, none⟩ ∧ ∀ (j : Nat) (x : Cmp), cs[j]? = some x →
  W.cell? ⟨b, o + j * 7, none⟩ = some (.string x.s) ∧ W.cell? ⟨b, o + j * 7 + 1, none⟩ = some (.int .i64 x.wd) ∧ W.cell? ⟨b, o + j * 7 + 2, none⟩ = some (.bool x.rb) ∧ W.cell? ⟨b, o + j * 7 + 3, none⟩ = some (.int .i64 x.d0) ∧ W.cell? ⟨b, o + j * 7 + 4, none⟩ = some (.int .i64 x.d1) ∧ W.cell? ⟨b, o + j * 7 + 5, none⟩ = some (.int .i64 x.d2) ∧ W.cell? ⟨b, o + j * 7 + 6, none⟩ = some (.int .i64 x.d3))
def RscRow (W : World) (v : Value) (rs : List Rsc) : Prop := ∃ a c, v = .slice a rs.length c ∧ rs.length ≤ c ∧ (rs = [] ∨ ∃ b o, a = some ⟨b, o, none⟩ ∧ ∀ (j : Nat) (x : Rsc), rs[j]? = some x →
  W.cell? ⟨b, o + j * 2, none⟩ = some (.string x.s) ∧ W.cell? ⟨b, o + j * 2 + 1, none⟩ = some (.int .i64 x.n))
theorem CmpRow.later {W W' : World} {v : Value} {cs : List Cmp} (h : CmpRow W v cs) (hb : Below W.heap.size W W') : CmpRow W' v cs := by
  obtain ⟨a, c, h1, h2, h3⟩ := h
  refine ⟨a, c, h1, h2, h3.imp id ?_⟩
  rintro ⟨b, o, ha, hc⟩
  refine ⟨b, o, ha, fun j x hx => ?_⟩
  obtain ⟨c0, c1, c2, c3, c4, c5, c6⟩ := hc j x hx
  have S := fun {p : Addr} {u : Value} (h : W.cell? p = some u) => seen hb (Nat.le_refl _) h
  exact ⟨S c0, S c1, S c2, S c3, S c4, S c5, S c6⟩
theorem RscRow.later {W W' : World} {v : Value} {rs : List Rsc} (h : RscRow W v rs) (hb : Below W.heap.size W W') : RscRow W' v rs := by
  obtain ⟨a, c, h1, h2, h3⟩ := h
  refine ⟨a, c, h1, h2, h3.imp id ?_⟩
  rintro ⟨b, o, ha, hc⟩
  refine ⟨b, o, ha, fun j x hx => ?_⟩
  obtain ⟨c0, c1⟩ := hc j x hx
  exact ⟨seen hb (Nat.le_refl _) c0, seen hb (Nat.le_refl _) c1⟩
theorem unless_t (v : Value) (W : World) : Calls Tryd.prog 48 #[.bool true, v] W fun e W' => e = .returned .nilIface ∧ W' = W := by
  go_enter Tryd.func48, Tryd.ntmps48
  go_wp2_with fail
  go_ret
  exact ⟨rfl, rfl⟩
theorem unless_f (v : Value) (W : World) : Calls Tryd.prog 48 #[.bool false, v] W fun e W' => e = .returned v ∧ W' = W := by
  go_enter Tryd.func48, Tryd.ntmps48
  go_wp2_with fail
  go_ret
  exact ⟨rfl, rfl⟩
theorem shr_set (cs : List Cmp) (a : Int) : (a / 2 ^ min cs.length 32 == 0) = isSet cs a := by
  unfold isSet
  generalize min cs.length 32 = k
  have hp : (0 : Int) < 2 ^ k := Int.pow_pos (by decide)
  by_cases h : 0 ≤ a
  · by_cases h2 : a < 2 ^ k
    · rw [Int.ediv_eq_zero_of_lt h h2]
      simp [h, h2]
    · have : 1 ≤ a / 2 ^ k := (Int.le_ediv_iff_mul_le hp).2 (by omega)
      have e : ¬ (a / 2 ^ k = 0) := by omega
      simp [e, h2]
  · have : a / 2 ^ k < 0 := Int.ediv_neg_of_neg_of_pos (by omega) hp
    have e : ¬ (a / 2 ^ k = 0) := by omega
    simp [e, h]
theorem unless_any (q : Bool) (v : Value) (W : World) : Calls Tryd.prog 48 #[.bool q, v] W fun e W' => e = .returned (if q then .nilIface else v) ∧ W' = W := by
  cases q with
  | true => exact unless_t v W
  | false => exact unless_f v W
set_option maxHeartbeats 800000 in
theorem isset_any (W : World) (a : Option Addr) (cs : List Cmp) (c : Nat) (vb : Value) (n : Int) (hl : cs.length ≤ 1000) :
    Calls Tryd.prog 60 #[.agg #[.slice a cs.length c, vb], .int .i64 n] W fun e W' => e = .returned (.bool (isSet cs n)) ∧ Below W.heap.size W W' := by
  have R := hid (shr_set cs n)
  have BA : Hid (Below W.heap.size W (W.alloc (.cells #[.slice a cs.length c, vb] 39))) := bAl _ _
  have hli : (cs.length : Int) ≤ 1000 := by omega
  go_enter Tryd.func60, Tryd.ntmps60
  go_wp2_with fail
  go_ret
  exact ⟨by rw [← R.out, show min cs.length 32 = (min (cs.length : Int) 32).toNat by omega]; rfl, BA.out⟩
def shownB (cs : List Cmp) (n : Int) : Bool := inN n cs.length && !rolled cs n
set_option maxHeartbeats 800000 in
theorem isshown_any (W : World) (va vb : Value) (cs : List Cmp) (n : Int) (hC : CmpRow W va cs) (hl : cs.length ≤ 1000) :
    Calls Tryd.prog 61 #[.agg #[va, vb], .int .i64 n] W fun e W' => e = .returned (.bool (shownB cs n)) ∧ Below W.heap.size W W' := by
  obtain ⟨a, c, rfl, -, hlay⟩ := hC
  have BA : Hid (Below W.heap.size W (W.alloc (.cells #[.slice a cs.length c, vb] 39))) := bAl _ _
  have BL := hid (fun W' => below_any n (cs.length : Int) W')
  have hli : (cs.length : Int) ≤ 1000 := by omega
  by_cases h : 0 ≤ n ∧ n < (cs.length : Int)
  · obtain ⟨j, rfl⟩ : ∃ j : Nat, n = (j : Int) := ⟨n.toNat, by omega⟩
    have hj : j < cs.length := by omega
    have hji : (j : Int) < (cs.length : Int) := by omega
    obtain ⟨x, hx⟩ := at_lt cs j hj
    rcases hlay with h0 | ⟨b, o, rfl, hc⟩
    · rw [h0] at hx
      simp at hx
    obtain ⟨-, -, c2, -, -, -, -⟩ := hc j x hx
    have hb := World.block_lt_of_cell? W _ c2
    have hbn : ¬ (b = W.heap.size) := by
      have : b < W.heap.size := hb
      omega
    have e1 : (decide (0 ≤ (j : Int)) && decide ((j : Int) < (cs.length : Int))) = true := by simp [hj]
    have e2 : shownB cs (j : Int) = !x.rb := by
      unfold shownB inN rolled
      rw [e1, Int.toNat_natCast, hx]
      rfl
    rw [e1] at BL
    rw [e2]
    obtain ⟨s, wd, rb, d0, d1, d2, d3⟩ := x
    simp only [] at c2 ⊢
    clear hc hx e1 e2 h
    go_enter Tryd.func61, Tryd.ntmps61
    go_wp2_with fail
    refine (BL.out _).mono ?_
    rintro e w1 ⟨rfl, rfl⟩
    clear BL
    go_wp2_with fail
    go_ret
    exact ⟨rfl, BA.out⟩
  · have e1 : (decide (0 ≤ n) && decide (n < (cs.length : Int))) = false := by
      rw [Bool.and_eq_false_iff, decide_eq_false_iff_not, decide_eq_false_iff_not]
      omega
    have e2 : shownB cs n = false := by
      unfold shownB inN
      rw [e1]
      rfl
    rw [e1] at BL
    rw [e2]
    clear e1 e2 hlay h
    go_enter Tryd.func61, Tryd.ntmps61
    go_wp2_with fail
    refine (BL.out _).mono ?_
    rintro e w1 ⟨rfl, rfl⟩
    clear BL
    go_wp2_with fail
    go_ret
    exact ⟨rfl, BA.out⟩
end Go.Proofs.YtkhhiddemihnbaaDoor.Cw
