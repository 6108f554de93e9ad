/- checkA: sets, what is read, no A. -/
import Derived.Test.YtkhhiddemihnbaaDoorCwCb
namespace Go.Proofs.YtkhhiddemihnbaaDoor.Cw
open Go.RowKit Go.Shelf
variable (Ad : Nat → Addr) (W : World) (cs : List Cmp) (rs : List Rsc) (m : Nat) (a b : Int)
set_option maxHeartbeats 1600000 in
set_option maxRecDepth 100000 in
theorem cka_31 (hE : Env8 W Ad) (sa ta : Option Addr) (sc tc : Nat) (hl : cs.length ≤ 1000) (hr : rs.length ≤ 1000) :
    Calls Tryd.prog 47 #[.agg #[.slice sa cs.length sc, .slice ta rs.length tc], .agg #[.int .i64 31, .int .i64 a, .int .i64 b], .int .i64 (m : Int)] W fun e W' => e = .returned (errV Ad (aNs cs rs m (31, a, b))) ∧ Below W.heap.size W W' := by
  have EA : aNs cs rs m (31, a, b) = if isSet cs a then [] else [1] := by simp [aNs, aOk, jmp]
  cases hq : isSet cs a
  all_goals
    rw [EA, hq]
    clear EA
    have UN := hid (fun q (v : Value) W' => unless_any q v W')
    have IS := hid (fun W' => isset_any W' sa cs sc (.slice ta rs.length tc) a hl)
    rw [hq] at IS
    have HN := hid (had_new hE (.slice sa cs.length sc) (.slice ta rs.length tc) (31, a, b))
    have hcl : (cs.length : Int) ≤ 1000 := by omega
    have hrl : (rs.length : Int) ≤ 1000 := by omega
    clear hE
    go_enter Tryd.func47, Tryd.ntmps47
    go_upto_region 1 with fail
    obtain ⟨w2, hw2⟩ : ∃ w2, w2 = (W.alloc (.cells #[.slice sa cs.length sc, .slice ta rs.length tc] 39)).alloc (.cells #[.int .i64 31, .int .i64 a, .int .i64 b] 59) := ⟨_, rfl⟩
    have HN2 : Hid (Had Ad W.heap.size (.slice sa cs.length sc) (.slice ta rs.length tc) (31, a, b) w2 ∧ Below W.heap.size W w2) := by rw [hw2]; exact HN.out
    rw [← hw2]
    clear hw2 HN
    obtain ⟨c0, c1, i0, i1, i2, e1, e13⟩ := HN2.out.1
    simp only [] at i0 i1 i2
    clear hq
    go_wp2_with fail
    go_region_held3 (fun V => V.cell? ⟨W.heap.size, 0, none⟩ = some (.slice sa cs.length sc) ∧ V.cell? ⟨W.heap.size, 1, none⟩ = some (.slice ta rs.length tc) ∧ V.cell? ⟨W.heap.size + 1, 1, none⟩ = some (.int .i64 a) ∧ V.cell? ⟨4, 0, none⟩ = some (.iface 163 (.pointer (some (Ad 1))))) (first | go_keep | (exact ⟨seen (by assumption) (Nat.le_refl _) c0, seen (by assumption) (Nat.le_refl _) c1, seen (by assumption) (Nat.le_refl _) i1, seen (by assumption) (Nat.le_refl _) e1⟩)) (first
      | (go_at_call 60; refine (IS.out _).mono ?_; rintro e w7 ⟨rfl, b7⟩; have h7 : Below w2.heap.size w2 w7 := (show Below w2.heap.size w2 w2.drew from ⟨rfl, rfl, rfl, Nat.le_refl _, fun _ _ => rfl⟩).trans b7)
      | (go_at_call 48; refine (UN.out _ _ _).mono ?_; rintro e w8 ⟨rfl, rfl⟩))
    go_wp2_with fail
    go_ret
    exact ⟨rfl, by first | exact HN2.out.2.trans ((by assumption : Below _ _ _).mono HN2.out.2.size) | exact Bq (HN2.out.2.trans ((by assumption : Below _ _ _).mono HN2.out.2.size)) _⟩
set_option maxHeartbeats 1600000 in
set_option maxRecDepth 100000 in
theorem cka_22 (hE : Env8 W Ad) (sa ta : Option Addr) (sc tc : Nat) (hl : cs.length ≤ 1000) (hr : rs.length ≤ 1000) (hC : CmpRow W (.slice sa cs.length sc) cs) :
    Calls Tryd.prog 47 #[.agg #[.slice sa cs.length sc, .slice ta rs.length tc], .agg #[.int .i64 22, .int .i64 a, .int .i64 b], .int .i64 (m : Int)] W fun e W' => e = .returned (errV Ad (aNs cs rs m (22, a, b))) ∧ Below W.heap.size W W' := by
  have EA : aNs cs rs m (22, a, b) = if inN a cs.length && rolled cs a then [] else [1] := by simp [aNs, aOk, jmp]
  have SH : shownB cs a = (inN a cs.length && !rolled cs a) := rfl
  have BX := hid (had_new hE (.slice sa cs.length sc) (.slice ta rs.length tc) (22, a, b)).2
  have IH := hid (fun W' (h : Below W.heap.size W W') => isshown_any W' (.slice sa cs.length sc) (.slice ta rs.length tc) cs a (hC.later h) hl)
  rw [SH] at IH
  clear SH hC
  cases hq : inN a cs.length <;> cases hr2 : rolled cs a
  all_goals
    rw [EA, hq, hr2]
    rw [hq, hr2] at IH
    clear EA
    have UN := hid (fun q (v : Value) W' => unless_any q v W')
    have PC := hid (fun W' => below_any a (cs.length : Int) W')
    rw [show (decide (0 ≤ a) && decide (a < (cs.length : Int))) = inN a cs.length from rfl, hq] at PC
    have HN := hid (had_new hE (.slice sa cs.length sc) (.slice ta rs.length tc) (22, a, b))
    have hcl : (cs.length : Int) ≤ 1000 := by omega
    have hrl : (rs.length : Int) ≤ 1000 := by omega
    clear hE
    go_enter Tryd.func47, Tryd.ntmps47
    go_upto_region 1 with fail
    obtain ⟨w2, hw2⟩ : ∃ w2, w2 = (W.alloc (.cells #[.slice sa cs.length sc, .slice ta rs.length tc] 39)).alloc (.cells #[.int .i64 22, .int .i64 a, .int .i64 b] 59) := ⟨_, rfl⟩
    have HN2 : Hid (Had Ad W.heap.size (.slice sa cs.length sc) (.slice ta rs.length tc) (22, a, b) w2 ∧ Below W.heap.size W w2) := by rw [hw2]; exact HN.out
    rw [← hw2]
    clear hw2 HN
    obtain ⟨c0, c1, i0, i1, i2, e1, e13⟩ := HN2.out.1
    simp only [] at i0 i1 i2
    clear hq hr2 BX
    go_wp2_with fail
    refine (IH.out _ HN2.out.2).mono ?_
    rintro e w3 ⟨rfl, b3⟩
    have HN3 := hid (HN2.out.1.later b3)
    have B3 := hid (HN2.out.2.trans (b3.mono HN2.out.2.size))
    obtain ⟨c0', c1', i0', i1', i2', e1', e13'⟩ := HN3.out
    simp only [] at i0' i1' i2'
    clear b3 IH c0 c1 i0 i1 i2 e1 e13
    go_wp2_with fail
    first
      | (go_ret; exact ⟨rfl, B3.out⟩)
      | (go_quiet ((first | (go_at_call 45; exact Calls.quiet_of_same (PC.out _)) | (go_at_call 48; exact Calls.quiet_of_same (UN.out _ _ _))))
         go_wp2_with fail
         go_ret
         exact ⟨rfl, by first | exact B3.out | exact Bq B3.out _⟩)
set_option maxHeartbeats 1600000 in
set_option maxRecDepth 100000 in
theorem cka_24 (hE : Env8 W Ad) (sa ta : Option Addr) (sc tc : Nat) (hl : cs.length ≤ 1000) (hr : rs.length ≤ 1000) (hC : CmpRow W (.slice sa cs.length sc) cs) :
    Calls Tryd.prog 47 #[.agg #[.slice sa cs.length sc, .slice ta rs.length tc], .agg #[.int .i64 24, .int .i64 a, .int .i64 b], .int .i64 (m : Int)] W fun e W' => e = .returned (errV Ad (aNs cs rs m (24, a, b))) ∧ Below W.heap.size W W' := by
  have EA : aNs cs rs m (24, a, b) = if inN a cs.length && rolled cs a then [] else [1] := by simp [aNs, aOk, jmp]
  have SH : shownB cs a = (inN a cs.length && !rolled cs a) := rfl
  have BX := hid (had_new hE (.slice sa cs.length sc) (.slice ta rs.length tc) (24, a, b)).2
  have IH := hid (fun W' (h : Below W.heap.size W W') => isshown_any W' (.slice sa cs.length sc) (.slice ta rs.length tc) cs a (hC.later h) hl)
  rw [SH] at IH
  clear SH hC
  cases hq : inN a cs.length <;> cases hr2 : rolled cs a
  all_goals
    rw [EA, hq, hr2]
    rw [hq, hr2] at IH
    clear EA
    have UN := hid (fun q (v : Value) W' => unless_any q v W')
    have PC := hid (fun W' => below_any a (cs.length : Int) W')
    rw [show (decide (0 ≤ a) && decide (a < (cs.length : Int))) = inN a cs.length from rfl, hq] at PC
    have HN := hid (had_new hE (.slice sa cs.length sc) (.slice ta rs.length tc) (24, a, b))
    have hcl : (cs.length : Int) ≤ 1000 := by omega
    have hrl : (rs.length : Int) ≤ 1000 := by omega
    clear hE
    go_enter Tryd.func47, Tryd.ntmps47
    go_upto_region 1 with fail
    obtain ⟨w2, hw2⟩ : ∃ w2, w2 = (W.alloc (.cells #[.slice sa cs.length sc, .slice ta rs.length tc] 39)).alloc (.cells #[.int .i64 24, .int .i64 a, .int .i64 b] 59) := ⟨_, rfl⟩
    have HN2 : Hid (Had Ad W.heap.size (.slice sa cs.length sc) (.slice ta rs.length tc) (24, a, b) w2 ∧ Below W.heap.size W w2) := by rw [hw2]; exact HN.out
    rw [← hw2]
    clear hw2 HN
    obtain ⟨c0, c1, i0, i1, i2, e1, e13⟩ := HN2.out.1
    simp only [] at i0 i1 i2
    clear hq hr2 BX
    go_wp2_with fail
    refine (IH.out _ HN2.out.2).mono ?_
    rintro e w3 ⟨rfl, b3⟩
    have HN3 := hid (HN2.out.1.later b3)
    have B3 := hid (HN2.out.2.trans (b3.mono HN2.out.2.size))
    obtain ⟨c0', c1', i0', i1', i2', e1', e13'⟩ := HN3.out
    simp only [] at i0' i1' i2'
    clear b3 IH c0 c1 i0 i1 i2 e1 e13
    go_wp2_with fail
    first
      | (go_ret; exact ⟨rfl, B3.out⟩)
      | (go_quiet ((first | (go_at_call 45; exact Calls.quiet_of_same (PC.out _)) | (go_at_call 48; exact Calls.quiet_of_same (UN.out _ _ _))))
         go_wp2_with fail
         go_ret
         exact ⟨rfl, by first | exact B3.out | exact Bq B3.out _⟩)
set_option maxHeartbeats 1600000 in
set_option maxRecDepth 100000 in
theorem cka_no (op : Int) (hE : Env8 W Ad) (sa ta : Option Addr) (sc tc : Nat) (hl : cs.length ≤ 1000) (hr : rs.length ≤ 1000) (n1 : (op == 1) = false) (n20 : (op == 20) = false) (n21 : (op == 21) = false) (n25 : (op == 25) = false) (n26 : (op == 26) = false) (n27 : (op == 27) = false) (n31 : (op == 31) = false) (n22 : (op == 22) = false) (n24 : (op == 24) = false) (n23 : (op == 23) = false) (n33 : (op == 33) = false) (n34 : (op == 34) = false) :
    Calls Tryd.prog 47 #[.agg #[.slice sa cs.length sc, .slice ta rs.length tc], .agg #[.int .i64 op, .int .i64 a, .int .i64 b], .int .i64 (m : Int)] W fun e W' => e = .returned (errV Ad (aNs cs rs m (op, a, b))) ∧ Below W.heap.size W W' := by
  have EA : aNs cs rs m (op, a, b) = if a == 0 then [] else [1] := by
    have ej : jmp op = false := by unfold jmp; rw [n20, n21]; rfl
    unfold aNs aOk
    simp only [n1, n25, n26, n27, n31, n22, n24, n23, n33, n34, ej]
    rfl
  cases hq : a == 0
  all_goals
    rw [EA, hq]
    clear EA
    have UN := hid (fun q (v : Value) W' => unless_any q v W')
    have HN := hid (had_new hE (.slice sa cs.length sc) (.slice ta rs.length tc) (op, a, b))
    have hcl : (cs.length : Int) ≤ 1000 := by omega
    have hrl : (rs.length : Int) ≤ 1000 := by omega
    clear hE
    go_enter Tryd.func47, Tryd.ntmps47
    go_upto_region 1 with fail
    obtain ⟨w2, hw2⟩ : ∃ w2, w2 = (W.alloc (.cells #[.slice sa cs.length sc, .slice ta rs.length tc] 39)).alloc (.cells #[.int .i64 op, .int .i64 a, .int .i64 b] 59) := ⟨_, rfl⟩
    have HN2 : Hid (Had Ad W.heap.size (.slice sa cs.length sc) (.slice ta rs.length tc) (op, a, b) w2 ∧ Below W.heap.size W w2) := by rw [hw2]; exact HN.out
    rw [← hw2]
    clear hw2 HN
    obtain ⟨c0, c1, i0, i1, i2, e1, e13⟩ := HN2.out.1
    simp only [] at i0 i1 i2
    go_wp2_with fail
    refine (UN.out _ _ _).mono ?_
    rintro e w3 ⟨rfl, rfl⟩
    go_wp2_with fail
    go_ret
    exact ⟨rfl, HN2.out.2⟩
set_option maxHeartbeats 800000 in
theorem cka_any (x : Ins) (va vb : Value) (hE : Env8 W Ad) (hC : CmpRow W va cs) (hQ : RscRow W vb rs) (hl : cs.length ≤ 1000) (hr : rs.length ≤ 1000) :
    Calls Tryd.prog 47 #[.agg #[va, vb], iV x, .int .i64 (m : Int)] W fun e W' => e = .returned (errV Ad (aNs cs rs m x)) ∧ Below W.heap.size W W' := by
  have hC' := hC
  obtain ⟨sa, sc, rfl, -, -⟩ := hC
  obtain ⟨ta, tc, rfl, -, -⟩ := hQ
  obtain ⟨op, a, b⟩ := x
  unfold iV
  simp only []
  by_cases n1 : op = 1
  · subst n1
    exact cka_1 Ad W cs rs m a b hE sa ta sc tc hl hr
  by_cases n20 : op = 20
  · subst n20
    exact cka_20 Ad W cs rs m a b hE sa ta sc tc hl hr
  by_cases n21 : op = 21
  · subst n21
    exact cka_21 Ad W cs rs m a b hE sa ta sc tc hl hr
  by_cases n25 : op = 25
  · subst n25
    exact cka_25 Ad W cs rs m a b hE sa ta sc tc hl hr
  by_cases n26 : op = 26
  · subst n26
    exact cka_26 Ad W cs rs m a b hE sa ta sc tc hl hr
  by_cases n27 : op = 27
  · subst n27
    exact cka_27 Ad W cs rs m a b hE sa ta sc tc hl hr
  by_cases n31 : op = 31
  · subst n31
    exact cka_31 Ad W cs rs m a b hE sa ta sc tc hl hr
  by_cases n22 : op = 22
  · subst n22
    exact cka_22 Ad W cs rs m a b hE sa ta sc tc hl hr hC'
  by_cases n24 : op = 24
  · subst n24
    exact cka_24 Ad W cs rs m a b hE sa ta sc tc hl hr hC'
  by_cases n23 : op = 23
  · subst n23
    exact cka_23 Ad W cs rs m a b hE sa ta sc tc hl hr
  by_cases n33 : op = 33
  · subst n33
    exact cka_33 Ad W cs rs m a b hE sa ta sc tc hl hr
  by_cases n34 : op = 34
  · subst n34
    exact cka_34 Ad W cs rs m a b hE sa ta sc tc hl hr
  exact cka_no Ad W cs rs m a b op hE sa ta sc tc hl hr (beq_eq_false_iff_ne.2 n1) (beq_eq_false_iff_ne.2 n20) (beq_eq_false_iff_ne.2 n21) (beq_eq_false_iff_ne.2 n25) (beq_eq_false_iff_ne.2 n26) (beq_eq_false_iff_ne.2 n27) (beq_eq_false_iff_ne.2 n31) (beq_eq_false_iff_ne.2 n22) (beq_eq_false_iff_ne.2 n24) (beq_eq_false_iff_ne.2 n23) (beq_eq_false_iff_ne.2 n33) (beq_eq_false_iff_ne.2 n34)
end Go.Proofs.YtkhhiddemihnbaaDoor.Cw
