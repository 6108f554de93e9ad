/- Instructions in memory; whether one leads nowhere. -/
import Derived.Test.YtkhhiddemihnbaaDoorCwBa
namespace Go.Proofs.YtkhhiddemihnbaaDoor.Cw
open Go.RowKit Go.Shelf
def iV (x : Ins) : Value := .agg #[.int .i64 x.1, .int .i64 x.2.1, .int .i64 x.2.2]
def Thr (W : World) (b o : Nat) (x : Ins) : Prop := W.cell? ⟨b, o, none⟩ = some (.int .i64 x.1) ∧ W.cell? ⟨b, o + 1, none⟩ = some (.int .i64 x.2.1) ∧ W.cell? ⟨b, o + 2, none⟩ = some (.int .i64 x.2.2)
def InsRow (W : World) (v : Value) (l : List Ins) : Prop := ∃ a c, v = .slice a l.length c ∧ (∀ x ∈ l, J64 x.2.1) ∧ (l = [] ∨ ∃ b o, a = some ⟨b, o, none⟩ ∧ ∀ (j : Nat) x, l[j]? = some x → Thr W b (o + j * 3) x)
theorem Thr.later {W W' : World} {b o : Nat} {x : Ins} (h : Thr W b o x) (hb : Below W.heap.size W W') : Thr W' b o x := ⟨Sc.Below.seen hb (Nat.le_refl _) h.1, Sc.Below.seen hb (Nat.le_refl _) h.2.1, Sc.Below.seen hb (Nat.le_refl _) h.2.2⟩
theorem InsRow.later {W W' : World} {v : Value} {l : List Ins} (h : InsRow W v l) (hb : Below W.heap.size W W') : InsRow W' v l := by
  obtain ⟨a, c, h1, h2, h3⟩ := h
  exact ⟨a, c, h1, h2, h3.imp id fun ⟨b, o, q1, q2⟩ => ⟨b, o, q1, fun j x hj => (q2 j x hj).later hb⟩⟩
def plB (a m : Int) : Bool := decide (0 ≤ a) && decide (a ≤ m)
theorem isPl_of (a : Int) (m : Nat) : isPl a m = plB a (m : Int) := rfl
theorem isplace_any (n m : Int) (W : World) : Calls Tryd.prog 57 #[.int .i64 n, .int .i64 m] W fun e W' => e = .returned (.bool (plB n m)) ∧ W' = W := by
  by_cases h : 0 ≤ n
  · by_cases h2 : n ≤ m
    · have e : plB n m = true := by simp [plB, h, h2]
      rw [e]
      go_enter Tryd.func57, Tryd.ntmps57
      go_wp2_with fail
      go_ret
      exact ⟨rfl, rfl⟩
    · have e : plB n m = false := by simp [plB, h2]
      rw [e]
      go_enter Tryd.func57, Tryd.ntmps57
      go_wp2_with fail
      go_ret
      exact ⟨rfl, rfl⟩
  · have e : plB n m = false := by simp [plB, h]
    rw [e]
    go_enter Tryd.func57, Tryd.ntmps57
    go_wp2_with fail
    go_ret
    exact ⟨rfl, rfl⟩
def noB (x : Ins) (m : Int) : Bool := !known x.1 || (jmp x.1 && !plB x.2.1 m)
theorem nowhere_of (m : Nat) (x : Ins) : nowhere m x = noB x (m : Int) := rfl
set_option maxHeartbeats 1600000 in
set_option maxRecDepth 100000 in
theorem leads_any (W : World) (x : Ins) (m : Int) : Calls Tryd.prog 37 #[iV x, .int .i64 m] W fun e W' => e = .returned (.bool (noB x m)) ∧ Below W.heap.size W W' := by
  obtain ⟨op, a, b⟩ := x
  have J := hid (fun W' => jumps_any W' op)
  have KN := hid (fun W' => known_any op W')
  have P := hid (fun W' => isplace_any a m W')
  have BA : Hid (Below W.heap.size W (W.alloc (.cells #[.int .i64 op, .int .i64 a, .int .i64 b] 59))) := (Below.refl _ _).alloc (Nat.le_refl _) _
  have R : noB (op, a, b) m = (!known op || (jmp op && !plB a m)) := rfl
  rw [R]
  unfold iV
  simp only []
  generalize onw op = q2 at *
  cases hk : known op <;> cases hj : jmp op
  all_goals
    rw [hk] at KN
    rw [hj] at J
    generalize plB a m = q3 at *
    clear hk hj R
    go_enter Tryd.func37, Tryd.ntmps37
    go_wp2_with fail
    refine (J.out _).mono ?_
    rintro e w1 ⟨rfl, hb1⟩
    have B1 := hid (BA.out.trans (hb1.mono BA.out.size))
    have c0 : w1.cell? ⟨W.heap.size, 0, none⟩ = some (.int .i64 op) := (hb1.cell (p := ⟨W.heap.size, 0, none⟩) (by simp)).trans (by rw [cell_of_row _ _ _ _ 59 (0, 0) (heap_alloc_new W _)]; rfl)
    have c1 : w1.cell? ⟨W.heap.size, 1, none⟩ = some (.int .i64 a) := (hb1.cell (p := ⟨W.heap.size, 1, none⟩) (by simp)).trans (by rw [cell_of_row _ _ _ _ 59 (0, 0) (heap_alloc_new W _)]; rfl)
    clear hb1 J
    go_wp2_with fail
    refine (KN.out _).mono ?_
    rintro e w2 ⟨rfl, rfl⟩
    clear KN
    go_wp2_with fail
    first
      | (go_ret; exact ⟨rfl, B1.out⟩)
      | (refine (P.out _).mono ?_
         rintro e w3 ⟨rfl, rfl⟩
         clear P
         go_wp2_with fail
         go_ret
         exact ⟨by simp, B1.out⟩)
set_option maxHeartbeats 800000 in
theorem clo_any (W : World) (x : Ins) (p : Nat) (m : Int) (hp : W.cell? ⟨p, 0, none⟩ = some (.int .i64 m)) : Calls Tryd.prog 36 #[iV x, .pointer (some ⟨p, 0, none⟩)] W fun e W' => e = .returned (.bool (noB x m)) ∧ Below W.heap.size W W' := by
  have hl : p < W.heap.size := World.block_lt_of_cell? W _ hp
  have hn : ¬ (p = W.heap.size) := by omega
  have L := hid (fun W' => leads_any W' x m)
  obtain ⟨op, a, b⟩ := x
  unfold iV at L ⊢
  simp only [] at L ⊢
  have BA : Hid (Below W.heap.size W (W.alloc (.cells #[.int .i64 op, .int .i64 a, .int .i64 b] 59))) := (Below.refl _ _).alloc (Nat.le_refl _) _
  go_enter Tryd.func36, Tryd.ntmps36
  go_wp2_with fail
  refine (L.out _).mono ?_
  rintro e w1 ⟨rfl, hb1⟩
  have B1 := hid (BA.out.trans (hb1.mono BA.out.size))
  clear hb1 L
  go_wp2_with fail
  go_ret
  exact ⟨rfl, B1.out⟩
theorem any_next {l : List Ins} {k : Nat} {x : Ins} (f : Ins → Bool) (h : l[k]? = some x) : (l.take (k + 1)).any f = ((l.take k).any f || f x) := by
  rw [take_next h, List.any_append]
  simp
set_option maxHeartbeats 1600000 in
set_option maxRecDepth 100000 in
theorem idx_any (W : World) (v : Value) (l : List Ins) (hI : InsRow W v l) (hl : l.length ≤ 1000) (p : Nat) (m : Int) (hp : W.cell? ⟨p, 0, none⟩ = some (.int .i64 m)) :
    Calls Tryd.prog 56 #[v, .func (.func 36) #[] #[.pointer (some ⟨p, 0, none⟩)]] W fun e W' => (∃ i : Int, e = .returned (.int .i64 i) ∧ decide (0 ≤ i) = l.any fun x => noB x m) ∧ Below W.heap.size W W' := by
  obtain ⟨a, c, rfl, -, hlay⟩ := hI
  have HL := hid hlay
  have hli : (l.length : Int) ≤ 1000 := by omega
  clear hlay
  go_enter Tryd.func56, Tryd.ntmps56
  go_wp2_with fail
  go_loopw [5, 8] (fun _ i wr => ∃ k : Nat, k ≤ l.length ∧ i = .int .i64 (k : Int) ∧ Hid (Below W.heap.size W wr) ∧ Hid (((l.take k).any fun x => noB x m) = false)) (fun _ i _ => l.length - (intOf i).toNat)
  case atStart => exact ⟨0, Nat.zero_le _, rfl, Below.refl _ _, rfl⟩
  case round =>
    obtain ⟨k, hk, rfl, HB, HF⟩ := hrel
    by_cases hlt : k < l.length
    · have hki : (k : Int) < (l.length : Int) := by omega
      obtain ⟨x, hx⟩ := at_lt l k hlt
      obtain ⟨b, o, rfl, hc⟩ : ∃ b o, a = some ⟨b, o, none⟩ ∧ ∀ (j : Nat) x, l[j]? = some x → Thr W b (o + j * 3) x := by
        rcases HL.out with h | h
        · rw [h] at hx; simp at hx
        · exact h
      obtain ⟨c0, c1, c2⟩ := (hc k x hx)
      have S := fun {p : Addr} {u : Value} (h : W.cell? p = some u) => Sc.Below.seen HB.out (Nat.le_refl _) h
      have c0 := S c0
      have c1 := S c1
      have c2 := S c2
      have CL := hid (clo_any wr x p m (S hp))
      have AN := hid (any_next (fun x => noB x m) hx)
      have MX := hid (List.mem_of_getElem? hx)
      clear S hc hx
      generalize hq : noB x m = q at *
      obtain ⟨op, ia, ib⟩ := x
      unfold iV at CL
      simp only [] at CL c0 c1 c2
      have HQ := hid hq
      clear hq
      go_wp2_with fail
      refine CL.out.mono ?_
      rintro e w1 ⟨rfl, b1⟩
      have B1 := hid (HB.out.trans (b1.mono HB.out.size))
      clear b1 CL c0 c1 c2
      cases q with
      | true =>
        have R : Hid ((l.any fun x => noB x m) = true) := List.any_eq_true.2 ⟨_, MX.out, HQ.out⟩
        go_wp2_with fail
        go_ret
        exact ⟨⟨(k : Int), rfl, by rw [R.out]; simp⟩, B1.out⟩
      | false =>
        have R : Hid (((l.take (k + 1)).any fun x => noB x m) = false) := by
          show _ = _
          rw [AN.out, HF.out]
          rfl
        go_wp2_with fail
        go_roundw
        case rel => exact ⟨k + 1, by omega, by go_num, B1, R⟩
        case measure => simp [intOf]; omega
    · have hki : ¬ ((k : Int) < (l.length : Int)) := by omega
      have R : Hid ((l.any fun x => noB x m) = false) := by show _ = _; rw [← HF.out, List.take_of_length_le (by omega)]
      go_wp2_with fail
      go_ret
      exact ⟨⟨-1, rfl, by rw [R.out]; rfl⟩, HB.out⟩
set_option maxHeartbeats 800000 in
theorem contains_any (W : World) (v : Value) (l : List Ins) (hI : InsRow W v l) (hl : l.length ≤ 1000) (p : Nat) (m : Int) (hp : W.cell? ⟨p, 0, none⟩ = some (.int .i64 m)) :
    Calls Tryd.prog 35 #[v, .func (.func 36) #[] #[.pointer (some ⟨p, 0, none⟩)]] W fun e W' => e = .returned (.bool (l.any fun x => noB x m)) ∧ Below W.heap.size W W' := by
  have IC := hid (idx_any W v l hI hl p m hp)
  obtain ⟨a, c, rfl, -, -⟩ := hI
  clear hp
  go_enter Tryd.func35, Tryd.ntmps35
  go_wp2_with fail
  refine IC.out.mono ?_
  rintro e w1 ⟨⟨i, rfl, hi⟩, hb⟩
  have HI := hid hi
  have HB := hid hb
  clear hi IC hb
  go_wp2_with fail
  go_ret
  exact ⟨by rw [← HI.out]; rfl, HB.out⟩
theorem nowhere_any (l : List Ins) : (l.any fun x => noB x (l.length : Int)) = false ↔ NoWhere l := by
  rw [List.any_eq_false]
  unfold NoWhere
  constructor
  · intro h x hx
    have := h x hx
    rw [nowhere_of]
    simpa using this
  · intro h x hx
    have := h x hx
    rw [nowhere_of] at this
    rw [this]
    simp
end Go.Proofs.YtkhhiddemihnbaaDoor.Cw
