/- Whether a part fits. -/
import Derived.Test.YtpglanlpnapddaaDoorCc
namespace Go.Proofs.YtpglanlpnapddaaDoor
open Go.RowKit Go.Shelf Go.Maps
def nzB (x : Int) : Bool := !(x == 0)
/-- Numbers in memory. -/
def Nums (W : World) (b o : Nat) (xs : List Int) : Prop := ∀ (j : Nat) x, xs[j]? = some x → W.cell? ⟨b, o + j, none⟩ = some (.int .i64 x)
theorem any_next {xs : List Int} {k : Nat} {x : Int} (h : xs[k]? = some x) : (xs.take (k + 1)).any nzB = ((xs.take k).any nzB || nzB x) := by
  rw [take_next h, List.any_append]; simp
theorem any_hit {xs : List Int} {k : Nat} {x : Int} (h : xs[k]? = some x) (hx : nzB x = true) : xs.any nzB = true := List.any_eq_true.2 ⟨x, List.mem_of_getElem? h, hx⟩
set_option maxHeartbeats 800000 in
set_option maxRecDepth 100000 in
theorem index_any (W : World) (b o c : Nat) (xs : List Int) (hn : xs.length ≤ 4) (hm : Nums W b o xs) :
    Calls Tryd.prog 40 #[.slice (some ⟨b, o, none⟩) xs.length c, .func (.func 36) #[] #[]] W fun e W' => ∃ r : Int, e = .returned (.int .i64 r) ∧ decide (0 ≤ r) = xs.any nzB ∧ W' = W := by
  have HM := hid hm
  clear hm
  have NZ := hid nz_any
  have hni : (xs.length : Int) ≤ 4 := by omega
  go_enter Tryd.func40, Tryd.ntmps40
  go_wp2_with fail
  go_loop [5, 8] (fun _ i => ∃ k : Nat, k ≤ xs.length ∧ i = .int .i64 (k : Int) ∧ Hid ((xs.take k).any nzB = false)) (fun _ i => xs.length - (intOf i).toNat)
  case atStart => exact ⟨0, Nat.zero_le _, rfl, rfl⟩
  case round =>
    obtain ⟨k, hk, rfl, HA⟩ := hrel
    by_cases hlt : k < xs.length
    · have hki : (k : Int) < (xs.length : Int) := by omega
      obtain ⟨x, hx⟩ := at_lt xs k hlt
      have c0 := HM.out k x hx
      have AN := hid (any_next hx)
      have AH := hid (any_hit hx)
      clear hx
      by_cases h0 : x = 0
      · have e0 : (x == 0) = true := by simp [h0]
        have E : Hid ((xs.take (k + 1)).any nzB = false) := by show _ = _; rw [AN.out, HA.out]; simp [nzB, e0]
        clear h0 AH
        go_wp2_with fail
        refine (NZ.out _ _).mono ?_
        rintro e w1 ⟨rfl, rfl⟩
        go_wp2_with fail
        go_round
        case rel => exact ⟨k + 1, by omega, by go_num, E.out⟩
        case measure => simp [intOf]; omega
      · have e0 : (x == 0) = false := by simp [h0]
        have E : Hid (xs.any nzB = true) := AH.out (by simp [nzB, e0])
        clear h0 AH
        go_wp2_with fail
        refine (NZ.out _ _).mono ?_
        rintro e w1 ⟨rfl, rfl⟩
        go_wp2_with fail
        go_ret
        exact ⟨_, rfl, by rw [E.out]; simp, rfl⟩
    · have hki : ¬ ((k : Int) < (xs.length : Int)) := by omega
      have E : Hid (xs.any nzB = false) := by
        have := HA.out
        rw [List.take_of_length_le (by omega)] at this
        exact this
      go_wp2_with fail
      go_ret
      exact ⟨_, rfl, by rw [E.out]; simp, rfl⟩
set_option maxHeartbeats 800000 in
theorem contains_any (W : World) (b o c : Nat) (xs : List Int) (hn : xs.length ≤ 4) (hm : Nums W b o xs) :
    Calls Tryd.prog 35 #[.slice (some ⟨b, o, none⟩) xs.length c, .func (.func 36) #[] #[]] W fun e W' => e = .returned (.bool (xs.any nzB)) ∧ W' = W := by
  have IX := hid (index_any W b o c xs hn hm)
  clear hm
  go_enter Tryd.func35, Tryd.ntmps35
  go_wp2_with fail
  refine IX.out.mono ?_
  rintro e w1 ⟨r, rfl, hr, rfl⟩
  have HR := hid hr
  clear hr IX
  go_wp2_with fail
  go_ret
  exact ⟨by rw [← HR.out]; rfl, rfl⟩
theorem fit_any (w : Nat) (p : Pt) : (p.cs.drop w).any nzB = !(p.fitB w) := by
  unfold Pt.fitB
  generalize p.cs.drop w = l
  induction l with
  | nil => rfl
  | cons x l ih => rw [List.any_cons, List.all_cons, ih, Bool.not_and]; rfl
/-- The cells behind the width, in memory. -/
theorem nums_behind {W : World} {b : Nat} {cm : Int} {p : Pt} (h : W.heap[b]? = some (.cells (p.arr cm) 34 (0, 0))) (w : Nat) : Nums W b (1 + w) (p.cs.drop w) := by
  intro j x hx
  refine cell_blk h ?_
  rw [List.getElem?_drop] at hx
  generalize hq : w + j = q at hx
  rw [show 1 + w + j = q + 1 by omega]
  match q, hx with
  | 0, hx => simp [Pt.cs] at hx; subst hx; rfl
  | 1, hx => simp [Pt.cs] at hx; subst hx; rfl
  | 2, hx => simp [Pt.cs] at hx; subst hx; rfl
  | 3, hx => simp [Pt.cs] at hx; subst hx; rfl
  | q + 4, hx => simp [Pt.cs] at hx
theorem drewN_below (W : World) (m : Nat) : Below W.heap.size W (W.drewN m) := by
  induction m generalizing W with
  | zero => exact Below.refl _ _
  | succ m ih => exact (ih W).drew
set_option maxHeartbeats 1600000 in
set_option maxRecDepth 100000 in
theorem check_comp (Ad : Nat → Addr) {B : Nat} {W : World} {rb mb : Nat} {sv : Value} {s : CS} (h : Cl B W rb mb sv s) (hE : Env3 W Ad) (cm : Int) (p : Pt) (hc : cm ≠ s.comp) :
    Calls Tryd.prog 30 #[.pointer (some ⟨rb, 0, none⟩), p.val cm] W fun e W' => ∃ t q, e = .returned (.iface t q) ∧ Err Ad W' (.iface t q) 1 1 ∧ Below W.heap.size W W' := by
  obtain ⟨W1, hW1⟩ : ∃ W1, W1 = W.alloc (.cells (p.arr cm) 34) := ⟨_, rfl⟩
  have BA : Hid (Below W.heap.size W W1) := by rw [hW1]; exact bAl _ _
  have e1 := (hE.later BA.out).c1
  have q0 := (h.later BA.out).c0
  have d0 : W1.cell? ⟨W.heap.size, 0, none⟩ = some (.int .i64 cm) := by rw [hW1]; exact cell_blk (heap_alloc_new W (.cells (p.arr cm) 34)) rfl
  have hne : (cm != s.comp) = true := by simp [hc]
  have AC := hid (fun s m => at_err Ad s _ 1 0 (W1.drewN m) (err_leaf Ad _ 1 (by decide)))
  have HW1 := hid hW1
  clear hE h hc hW1
  unfold Pt.val
  unfold Pt.arr at HW1
  go_enter Tryd.func30, Tryd.ntmps30
  go_wp2_with fail
  rw [← HW1.out]
  go_quiet (fail)
  go_wp2_with fail
  refine (AC.out _ _).mono ?_
  rintro e w2 ⟨t, q, rfl, hv, hb⟩
  have HV := hid hv
  have HB := hid (BA.out.trans ((drewN_below W1 nq).trans (hb.mono (drewN_below W1 nq).size) |>.mono BA.out.size))
  clear hv hb AC
  go_wp2_with fail
  go_ret
  exact ⟨t, q, rfl, HV.out, HB.out⟩
theorem fit4 (p : Pt) : p.fitB 4 = true := rfl
set_option maxHeartbeats 1600000 in
set_option maxRecDepth 100000 in
theorem check_vals (Ad : Nat → Addr) {B : Nat} {W : World} {rb mb : Nat} {sv : Value} {s : CS} (h : Cl B W rb mb sv s) (hE : Env3 W Ad) (p : Pt) (hf : p.fitB s.w = false) :
    Calls Tryd.prog 30 #[.pointer (some ⟨rb, 0, none⟩), p.val s.comp] W fun e W' => ∃ t q, e = .returned (.iface t q) ∧ Err Ad W' (.iface t q) 1 1 ∧ Below W.heap.size W W' := by
  obtain ⟨W1, hW1⟩ : ∃ W1, W1 = W.alloc (.cells (p.arr s.comp) 34) := ⟨_, rfl⟩
  have BA : Hid (Below W.heap.size W W1) := by rw [hW1]; exact bAl _ _
  have e1 := (hE.later BA.out).c1
  have q0 := (h.later BA.out).c0
  have q1 := (h.later BA.out).c1
  have hh : W1.heap[W.heap.size]? = some (.cells (p.arr s.comp) 34 (0, 0)) := by rw [hW1]; exact heap_alloc_new W (.cells (p.arr s.comp) 34)
  have d0 : W1.cell? ⟨W.heap.size, 0, none⟩ = some (.int .i64 s.comp) := cell_blk hh rfl
  have hn4 : ¬ (4 = s.w) := fun e => by rw [← e, fit4] at hf; cases hf
  have hw4 : (s.w : Int) ≤ 4 := by have := h.ok.w4; omega
  have hz4 : ¬ (s.w = 4) := by omega
  have CO := hid (fun m => contains_any (W1.drewN m) W.heap.size (1 + s.w) (4 - s.w) (p.cs.drop s.w) (by simp [Pt.cs]) (by
    intro j x hx
    exact seen (drewN_below W1 m) (Nat.le_refl _) (nums_behind hh s.w j x hx)))
  rw [fit_any, hf, show (p.cs.drop s.w).length = 4 - s.w by simp [Pt.cs]] at CO
  have AC := hid (fun s m => at_err Ad s _ 1 0 (W1.drewN m) (err_leaf Ad _ 1 (by decide)))
  have HW1 := hid hW1
  generalize s.comp = cm at *
  generalize s.w = sw at *
  clear hE h hf hW1 hh
  unfold Pt.val
  unfold Pt.arr at HW1
  go_enter Tryd.func30, Tryd.ntmps30
  go_wp2_with fail
  rw [← HW1.out]
  go_quiet (fail)
  go_wp2_with fail
  refine (CO.out _).mono ?_
  rintro e w2 ⟨rfl, rfl⟩
  go_wp2_with fail
  refine (AC.out _ _).mono ?_
  rintro e w2 ⟨t, q, rfl, hv, hb⟩
  have HV := hid hv
  have HB := hid (BA.out.trans ((drewN_below W1 nq).trans (hb.mono (drewN_below W1 nq).size) |>.mono BA.out.size))
  clear hv hb AC CO
  go_wp2_with fail
  go_ret
  exact ⟨t, q, rfl, HV.out, HB.out⟩
set_option maxHeartbeats 1600000 in
set_option maxRecDepth 100000 in
theorem check_ok {B : Nat} {W : World} {rb mb : Nat} {sv : Value} {s : CS} (h : Cl B W rb mb sv s) (p : Pt) (hf : p.fitB s.w = true) :
    Calls Tryd.prog 30 #[.pointer (some ⟨rb, 0, none⟩), p.val s.comp] W fun e W' => e = .returned .nilIface ∧ Below W.heap.size W W' := by
  obtain ⟨W1, hW1⟩ : ∃ W1, W1 = W.alloc (.cells (p.arr s.comp) 34) := ⟨_, rfl⟩
  have BA : Hid (Below W.heap.size W W1) := by rw [hW1]; exact bAl _ _
  have q0 := (h.later BA.out).c0
  have q1 := (h.later BA.out).c1
  have hh : W1.heap[W.heap.size]? = some (.cells (p.arr s.comp) 34 (0, 0)) := by rw [hW1]; exact heap_alloc_new W (.cells (p.arr s.comp) 34)
  have d0 : W1.cell? ⟨W.heap.size, 0, none⟩ = some (.int .i64 s.comp) := cell_blk hh rfl
  have hw := h.ok.w4
  have HW1 := hid hW1
  by_cases h4 : s.w = 4
  · have CO := hid (fun m => contains_any (W1.drewN m) W.heap.size 1 0 [] (by simp) (by intro j x hx; simp at hx))
    have CO : Hid (∀ m, Calls Tryd.prog 35 #[.slice (some ⟨W.heap.size, 1, none⟩) 0 0, .func (.func 36) #[] #[]] (W1.drewN m) fun e W' => e = .returned (.bool false) ∧ W' = W1.drewN m) := CO.out
    rw [h4] at q1
    generalize s.comp = cm at *
    clear h hf hW1 hh hw h4
    unfold Pt.val
    unfold Pt.arr at HW1
    go_enter Tryd.func30, Tryd.ntmps30
    go_wp2_with fail
    rw [← HW1.out]
    go_quiet (fail)
    go_wp2_with fail
    refine (CO.out _).mono ?_
    rintro e w2 ⟨rfl, rfl⟩
    go_wp2_with fail
    go_ret
    exact ⟨rfl, BA.out.trans ((drewN_below W1 nq).mono BA.out.size)⟩
  · have hn4 : ¬ (4 = s.w) := by omega
    have hw4 : (s.w : Int) ≤ 4 := by omega
    have hz4 : ¬ (s.w = 4) := by omega
    have CO := hid (fun m => contains_any (W1.drewN m) W.heap.size (1 + s.w) (4 - s.w) (p.cs.drop s.w) (by simp [Pt.cs]) (by
      intro j x hx
      exact seen (drewN_below W1 m) (Nat.le_refl _) (nums_behind hh s.w j x hx)))
    rw [fit_any, hf, show (p.cs.drop s.w).length = 4 - s.w by simp [Pt.cs]] at CO
    generalize s.comp = cm at *
    generalize s.w = sw at *
    clear h hf hW1 hh
    unfold Pt.val
    unfold Pt.arr at HW1
    go_enter Tryd.func30, Tryd.ntmps30
    go_wp2_with fail
    rw [← HW1.out]
    go_quiet (fail)
    go_wp2_with fail
    refine (CO.out _).mono ?_
    rintro e w2 ⟨rfl, rfl⟩
    go_wp2_with fail
    go_ret
    exact ⟨rfl, BA.out.trans ((drewN_below W1 nq).mono BA.out.size)⟩
end Go.Proofs.YtpglanlpnapddaaDoor
