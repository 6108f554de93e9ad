/- checkArgs. -/
import Derived.Test.YtkhhiddemihnbaaDoorCwCe
namespace Go.Proofs.YtkhhiddemihnbaaDoor.Cw
open Go.RowKit Go.Shelf
def inW (b w : Int) : Bool := decide (0 ≤ b) && decide (b < w)
theorem args_two {op : Int} (h : ¬ args op < 2) : op = 22 ∨ op = 23 := by
  unfold args num at h
  cases hk : known op with
  | false => simp [hk] at h
  | true =>
    rw [hk] at h
    obtain ⟨k, rfl, h36⟩ := known_nat hk
    have : ∀ k : Nat, k < 36 → ¬ argsT.getD k 0 < 2 → k = 22 ∨ k = 23 := by decide
    have := this k h36 (by simpa using h)
    omega
theorem had_schema {Ad : Nat → Addr} {W : World} {B : Nat} {va vb : Value} {x : Ins} (h : Had Ad B va vb x W) : W.cell? ⟨B, 0, none⟩ = some va ∧ W.cell? ⟨B, 1, none⟩ = some vb ∧ W.cell? ⟨B + 1, 0, none⟩ = some (.int .i64 x.1) ∧ W.cell? ⟨B + 1, 1, none⟩ = some (.int .i64 x.2.1) ∧ W.cell? ⟨B + 1, 2, none⟩ = some (.int .i64 x.2.2) ∧ W.cell? ⟨4, 0, none⟩ = some (.iface 163 (.pointer (some (Ad 1)))) := ⟨h.s0, h.s1, h.i0, h.i1, h.i2, h.e1⟩
/-- The cell of the width of a component that there is. -/
theorem wide_cell {W : World} {sa : Option Addr} {sc : Nat} {cs : List Cmp} {a : Int} (hC : CmpRow W (.slice sa cs.length sc) cs) (h : inN a cs.length = true) : ∃ (j b o : Nat), a = (j : Int) ∧ (j : Int) < (cs.length : Int) ∧ sa = some ⟨b, o, none⟩ ∧ W.cell? ⟨b, o + j * 7 + 1, none⟩ = some (.int .i64 (widthOf cs a)) := by
  unfold inN at h
  simp at h
  obtain ⟨j, rfl⟩ : ∃ j : Nat, a = (j : Int) := ⟨a.toNat, by omega⟩
  have hj : j < cs.length := by omega
  obtain ⟨x, hx⟩ := at_lt cs j hj
  obtain ⟨a', c', e, -, hlay⟩ := hC
  simp only [Value.slice.injEq, true_and] at e
  obtain ⟨rfl, rfl⟩ := e
  rcases hlay with h0 | ⟨b, o, rfl, hc⟩
  · rw [h0] at hx
    simp at hx
  · refine ⟨j, b, o, rfl, by omega, rfl, ?_⟩
    unfold widthOf
    rw [Int.toNat_natCast, hx]
    exact (hc j x hx).2.1
variable (Ad : Nat → Addr) (W : World) (cs : List Cmp) (rs : List Rsc) (m : Nat)
set_option maxHeartbeats 1600000 in
set_option maxRecDepth 100000 in
theorem ckargs_lo (x : Ins) (va vb : Value) (hO : OpsAt W) (hE : Env8 W Ad) (hC : CmpRow W va cs) (hQ : RscRow W vb rs) (hl : cs.length ≤ 1000) (hr : rs.length ≤ 1000) (hlo : args x.1 < 2) :
    Calls Tryd.prog 28 #[.agg #[va, vb], iV x, .int .i64 (m : Int)] W fun e W' => e = .returned (.tuple #[errV Ad (aNs cs rs m x), errV Ad (bNs cs rs m x)]) ∧ Below W.heap.size W W' := by
  have EB : bNs cs rs m x = if x.2.2 == 0 then [] else [1] := by
    unfold bNs bOk
    rw [if_pos hlo]
  have HN := hid (had_new hE va vb x)
  have CA := hid (fun W' (h : Below W.heap.size W W') => cka_any Ad W' cs rs m x va vb (hE.later h) (hC.later h) (hQ.later h) hl hr)
  have AR := hid (fun W' (h : Below W.heap.size W W') => args_any W' (hO.later h) x.1)
  have HLO := hid hlo
  rw [EB]
  clear hO hE hC hQ hl hr hlo EB
  obtain ⟨op, a, b⟩ := x
  unfold iV at CA ⊢
  simp only [] at CA AR HLO ⊢
  generalize errV Ad (aNs cs rs m (op, a, b)) = ev at *
  cases hq : b == 0
  all_goals
    have UN := hid (fun q (v : Value) W' => unless_any q v W')
    go_enter Tryd.func28, Tryd.ntmps28
    go_upto_region 1 with fail
    obtain ⟨w2, hw2⟩ : ∃ w2, w2 = (W.alloc (.cells #[va, vb] 39)).alloc (.cells #[.int .i64 op, .int .i64 a, .int .i64 b] 59) := ⟨_, rfl⟩
    have HN2 : Hid (Had Ad W.heap.size va vb (op, a, b) w2 ∧ Below W.heap.size W w2) := by rw [hw2]; exact HN.out
    rw [← hw2]
    clear hw2 HN
    obtain ⟨c0, c1, i0, i1, i2, e1⟩ := had_schema HN2.out.1
    simp only [] at i0 i1 i2
    go_wp2_with fail
    refine (CA.out _ HN2.out.2).mono ?_
    rintro e w3 ⟨rfl, b3⟩
    have H3 := hid (HN2.out.1.later b3)
    have B3 := hid (HN2.out.2.trans (b3.mono HN2.out.2.size))
    clear b3 CA c0 c1 i0 i1 i2 e1
    obtain ⟨c0, c1, i0, i1, i2, e1⟩ := had_schema H3.out
    simp only [] at i0 i1 i2
    go_wp2_with fail
    refine (AR.out _ B3.out).mono ?_
    rintro e w4 ⟨rfl, b4⟩
    have H4 := hid (H3.out.later b4)
    have B4 := hid (B3.out.trans (b4.mono B3.out.size))
    have hlo := HLO.out
    clear b4 AR c0 c1 i0 i1 i2 e1
    obtain ⟨c0, c1, i0, i1, i2, e1⟩ := had_schema H4.out
    simp only [] at i0 i1 i2
    go_wp2_with fail
    refine (UN.out _ _ _).mono ?_
    rintro e w5 ⟨rfl, rfl⟩
    go_wp2_with fail
    go_ret2
    exact ⟨rfl, B4.out⟩
set_option maxHeartbeats 1600000 in
set_option maxRecDepth 100000 in
theorem ckargs_hi (op a b : Int) (va vb : Value) (hO : OpsAt W) (hE : Env8 W Ad) (hC : CmpRow W va cs) (hQ : RscRow W vb rs) (hl : cs.length ≤ 1000) (hr : rs.length ≤ 1000) (hop : op = 22 ∨ op = 23) :
    Calls Tryd.prog 28 #[.agg #[va, vb], .agg #[.int .i64 op, .int .i64 a, .int .i64 b], .int .i64 (m : Int)] W fun e W' => e = .returned (.tuple #[errV Ad (aNs cs rs m (op, a, b)), errV Ad (bNs cs rs m (op, a, b))]) ∧ Below W.heap.size W W' := by
  have HN := hid (had_new hE va vb (op, a, b))
  have CA := hid (fun W' (h : Below W.heap.size W W') => cka_any Ad W' cs rs m (op, a, b) va vb (hE.later h) (hC.later h) (hQ.later h) hl hr)
  have AR := hid (fun W' (h : Below W.heap.size W W') => args_any W' (hO.later h) op)
  have e2 : args op = 2 := by rcases hop with rfl | rfl <;> rfl
  have ej : jmp op = false := by rcases hop with rfl | rfl <;> rfl
  have hin : aOk cs rs m (op, a, b) = true → inN a cs.length = true := by
    intro h
    rcases hop with rfl | rfl <;> simp [aOk, jmp] at h
    · exact h.1
    · exact h
  rw [e2] at AR
  unfold iV at CA
  simp only [] at CA
  have UN := hid (fun q (v : Value) W' => unless_any q v W')
  cases ha : aOk cs rs m (op, a, b) with
  | false =>
    have EA : aNs cs rs m (op, a, b) = [1] := by
      unfold aNs
      rw [ha, ej]
      rfl
    have EB : bNs cs rs m (op, a, b) = [] := by
      unfold bNs bOk
      rw [e2, ha]
      rfl
    rw [EA] at CA ⊢
    rw [EB]
    unfold errV at CA ⊢
    clear hO hE hC hQ hl hr EA EB ha hin ej e2
    go_enter Tryd.func28, Tryd.ntmps28
    go_upto_region 1 with fail
    obtain ⟨w2, hw2⟩ : ∃ w2, w2 = (W.alloc (.cells #[va, vb] 39)).alloc (.cells #[.int .i64 op, .int .i64 a, .int .i64 b] 59) := ⟨_, rfl⟩
    have HN2 : Hid (Had Ad W.heap.size va vb (op, a, b) w2 ∧ Below W.heap.size W w2) := by rw [hw2]; exact HN.out
    rw [← hw2]
    clear hw2 HN
    obtain ⟨c0, c1, i0, i1, i2, e1⟩ := had_schema HN2.out.1
    simp only [] at i0 i1 i2
    go_wp2_with fail
    refine (CA.out _ HN2.out.2).mono ?_
    rintro e w3 ⟨rfl, b3⟩
    have H3 := hid (HN2.out.1.later b3)
    have B3 := hid (HN2.out.2.trans (b3.mono HN2.out.2.size))
    clear b3 CA c0 c1 i0 i1 i2 e1
    obtain ⟨c0, c1, i0, i1, i2, e1⟩ := had_schema H3.out
    simp only [] at i0 i1 i2
    go_wp2_with fail
    refine (AR.out _ B3.out).mono ?_
    rintro e w4 ⟨rfl, b4⟩
    have H4 := hid (H3.out.later b4)
    have B4 := hid (B3.out.trans (b4.mono B3.out.size))
    clear b4 AR c0 c1 i0 i1 i2 e1
    go_wp2_with fail
    go_ret2
    exact ⟨rfl, B4.out⟩
  | true =>
    have EA : aNs cs rs m (op, a, b) = [] := by
      unfold aNs
      rw [ha]
      rfl
    have EB : bNs cs rs m (op, a, b) = if inW b (widthOf cs a) then [] else [1] := by
      unfold bNs bOk inW
      rw [e2, ha]
      rfl
    have hin := hin ha
    rw [EA] at CA ⊢
    rw [EB]
    have hC' := hC
    obtain ⟨sa, sc, rfl, -, -⟩ := hC
    obtain ⟨j, bb, oo, rfl, hji, rfl, hwc⟩ := wide_cell hC' hin
    have hbl := World.block_lt_of_cell? W _ hwc
    generalize widthOf cs (j : Int) = wd at *
    have BL := hid (fun W' => below_any b wd W')
    rw [show (decide (0 ≤ b) && decide (b < wd)) = inW b wd from rfl] at BL
    have HW := hid hwc
    have hcl : (cs.length : Int) ≤ 1000 := by omega
    unfold errV at CA ⊢
    clear hO hE hC' hQ hl hr EA EB ha hin ej e2 hwc
    cases hq : inW b wd
    all_goals
      rw [hq] at BL
      clear hq
      go_enter Tryd.func28, Tryd.ntmps28
      go_upto_region 1 with fail
      obtain ⟨w2, hw2⟩ : ∃ w2, w2 = (W.alloc (.cells #[.slice (some ⟨bb, oo, none⟩) cs.length sc, vb] 39)).alloc (.cells #[.int .i64 op, .int .i64 (j : Int), .int .i64 b] 59) := ⟨_, rfl⟩
      have HN2 : Hid (Had Ad W.heap.size (.slice (some ⟨bb, oo, none⟩) cs.length sc) vb (op, (j : Int), b) w2 ∧ Below W.heap.size W w2) := by rw [hw2]; exact HN.out
      rw [← hw2]
      clear hw2 HN
      obtain ⟨c0, c1, i0, i1, i2, e1⟩ := had_schema HN2.out.1
      simp only [] at i0 i1 i2
      go_wp2_with fail
      refine (CA.out _ HN2.out.2).mono ?_
      rintro e w3 ⟨rfl, b3⟩
      have H3 := hid (HN2.out.1.later b3)
      have B3 := hid (HN2.out.2.trans (b3.mono HN2.out.2.size))
      clear b3 CA c0 c1 i0 i1 i2 e1
      obtain ⟨c0, c1, i0, i1, i2, e1⟩ := had_schema H3.out
      simp only [] at i0 i1 i2
      go_wp2_with fail
      refine (AR.out _ B3.out).mono ?_
      rintro e w4 ⟨rfl, b4⟩
      have H4 := hid (H3.out.later b4)
      have B4 := hid (B3.out.trans (b4.mono B3.out.size))
      have hw4 := seen B4.out (Nat.le_refl _) HW.out
      clear b4 AR c0 c1 i0 i1 i2 e1
      obtain ⟨c0, c1, i0, i1, i2, e1⟩ := had_schema H4.out
      simp only [] at i0 i1 i2
      go_wp2_with fail
      go_quiet ((first | (go_at_call 45; exact Calls.quiet_of_same (BL.out _)) | (go_at_call 48; exact Calls.quiet_of_same (UN.out _ _ _))))
      go_wp2_with fail
      go_ret2
      exact ⟨rfl, by first | exact B4.out | exact Bq B4.out _⟩
theorem ckargs_any (x : Ins) (va vb : Value) (hO : OpsAt W) (hE : Env8 W Ad) (hC : CmpRow W va cs) (hQ : RscRow W vb rs) (hl : cs.length ≤ 1000) (hr : rs.length ≤ 1000) :
    Calls Tryd.prog 28 #[.agg #[va, vb], iV x, .int .i64 (m : Int)] W fun e W' => e = .returned (.tuple #[errV Ad (aNs cs rs m x), errV Ad (bNs cs rs m x)]) ∧ Below W.heap.size W W' := by
  by_cases h : args x.1 < 2
  · exact ckargs_lo Ad W cs rs m x va vb hO hE hC hQ hl hr h
  · obtain ⟨op, a, b⟩ := x
    exact ckargs_hi Ad W cs rs m op a b va vb hO hE hC hQ hl hr (args_two h)
end Go.Proofs.YtkhhiddemihnbaaDoor.Cw
