/- Find and Resource. -/
import Derived.Test.YtmekfiafdjdopaaDoorUb
import Derived.Test.YtmekfiafdjdopaaDoorSf
namespace Go.Proofs.YtmekfiafdjdopaaDoor
open Go.RowKit Go.Shelf
def eqS (a b : ByteArray) : Bool := a.toList == b.toList
theorem eqS_iff (a b : ByteArray) : eqS a b = true ↔ a = b := by
  unfold eqS
  constructor
  · intro h
    have h := eq_of_beq h
    rw [Lib.toList_data, Lib.toList_data] at h
    exact ByteArray.ext (Array.toList_inj.1 h)
  · rintro rfl; exact beq_self_eq_true _
/-- The first index of a name, or -1. -/
def firstI (s : ByteArray) : List ByteArray → Nat → Int
  | [], _ => -1
  | x :: l, k => if eqS x s then (k : Int) else firstI s l (k + 1)
theorem firstI_next (s : ByteArray) (l : List ByteArray) (k : Nat) (x : ByteArray) (h : l[k]? = some x) :
    firstI s (l.drop k) k = if eqS x s then (k : Int) else firstI s (l.drop (k + 1)) (k + 1) := by
  rw [List.drop_eq_getElem?_toList_append, h]
  rfl
theorem firstI_end (s : ByteArray) (l : List ByteArray) (k : Nat) (h : l.length ≤ k) : firstI s (l.drop k) k = -1 := by
  rw [List.drop_of_length_le h]; rfl
set_option maxHeartbeats 800000 in
theorem same45 (W : World) (x : Cmp) (p : Nat) (s : ByteArray) (hp : W.cell? ⟨p, 0, none⟩ = some (.string s)) :
    Calls Tryd.prog 45 #[.agg #[.string x.s, .int .i64 x.wd, .bool x.rb, .int .i64 x.d0, .int .i64 x.d1, .int .i64 x.d2, .int .i64 x.d3], .pointer (some ⟨p, 0, none⟩)] W fun e W' => e = .returned (.bool (eqS x.s s)) ∧ Below W.heap.size W W' := by
  have hl : p < W.heap.size := World.block_lt_of_cell? W _ hp
  have hn : ¬ (p = W.heap.size) := by omega
  go_enter Tryd.func45, Tryd.ntmps45
  go_wp2_with fail
  go_ret
  exact ⟨rfl, (Below.refl _ _).alloc (Nat.le_refl _) _⟩
set_option maxHeartbeats 800000 in
theorem same47 (W : World) (x : Rsc) (p : Nat) (s : ByteArray) (hp : W.cell? ⟨p, 0, none⟩ = some (.string s)) :
    Calls Tryd.prog 47 #[.agg #[.string x.s, .int .i64 x.n], .pointer (some ⟨p, 0, none⟩)] W fun e W' => e = .returned (.bool (eqS x.s s)) ∧ Below W.heap.size W W' := by
  have hl : p < W.heap.size := World.block_lt_of_cell? W _ hp
  have hn : ¬ (p = W.heap.size) := by omega
  go_enter Tryd.func47, Tryd.ntmps47
  go_wp2_with fail
  go_ret
  exact ⟨rfl, (Below.refl _ _).alloc (Nat.le_refl _) _⟩
set_option maxHeartbeats 1600000 in
set_option maxRecDepth 100000 in
theorem idx44 (W : World) (va : Value) (cs : List Cmp) (hC : CmpRow W va cs) (hl : cs.length ≤ 1000) (p : Nat) (s : ByteArray) (hp : W.cell? ⟨p, 0, none⟩ = some (.string s)) :
    Calls Tryd.prog 44 #[va, .func (.func 45) #[] #[.pointer (some ⟨p, 0, none⟩)]] W fun e W' => e = .returned (.int .i64 (firstI s (cs.map Cmp.s) 0)) ∧ Below W.heap.size W W' := by
  obtain ⟨a, c, rfl, hcap, hlay⟩ := hC
  have HL := hid hlay
  have hli : (cs.length : Int) ≤ 1000 := by omega
  clear hlay
  go_enter Tryd.func44, Tryd.ntmps44
  go_wp2_with fail
  go_loopw [5, 8] (fun _ i wr => ∃ k : Nat, k ≤ cs.length ∧ i = .int .i64 (k : Int) ∧ Hid (Below W.heap.size W wr) ∧ Hid (firstI s (cs.map Cmp.s) 0 = firstI s ((cs.map Cmp.s).drop k) k)) (fun _ i _ => cs.length - (intOf i).toNat)
  case atStart => exact ⟨0, Nat.zero_le _, rfl, Below.refl _ _, rfl⟩
  case round =>
    obtain ⟨k, hk, rfl, HB, HF⟩ := hrel
    by_cases hlt : k < cs.length
    · have hki : (k : Int) < (cs.length : Int) := by omega
      obtain ⟨x, hx⟩ := at_lt cs k hlt
      obtain ⟨b, o, rfl, hc⟩ : ∃ b o, a = some ⟨b, o, none⟩ ∧ ∀ (j : Nat) (x : Cmp), cs[j]? = some x → W.cell? ⟨b, o + j * 7, none⟩ = some (.string x.s) ∧ W.cell? ⟨b, o + j * 7 + 1, none⟩ = some (.int .i64 x.wd) ∧ W.cell? ⟨b, o + j * 7 + 2, none⟩ = some (.bool x.rb) ∧ W.cell? ⟨b, o + j * 7 + 3, none⟩ = some (.int .i64 x.d0) ∧ W.cell? ⟨b, o + j * 7 + 4, none⟩ = some (.int .i64 x.d1) ∧ W.cell? ⟨b, o + j * 7 + 5, none⟩ = some (.int .i64 x.d2) ∧ W.cell? ⟨b, o + j * 7 + 6, none⟩ = some (.int .i64 x.d3) := by
        rcases HL.out with h | h
        · rw [h] at hx; simp at hx
        · exact h
      obtain ⟨c0, c1, c2, c3, c4, c5, c6⟩ := hc k x hx
      have FN := hid (firstI_next s (cs.map Cmp.s) k x.s (by rw [List.getElem?_map, hx]; rfl))
      have S := fun {p : Addr} {u : Value} (h : W.cell? p = some u) => Below.seen HB.out (Nat.le_refl _) h
      have c0 := S c0
      have c1 := S c1
      have c2 := S c2
      have c3 := S c3
      have c4 := S c4
      have c5 := S c5
      have c6 := S c6
      have SC := hid (same45 wr x p s (S hp))
      clear S hc hx
      go_wp2_with fail
      refine SC.out.mono ?_
      rintro e w1 ⟨rfl, b1⟩
      have B1 := hid (HB.out.trans (b1.mono HB.out.size))
      clear b1 SC c0 c1 c2 c3 c4 c5 c6
      cases hq : eqS x.s s with
      | true =>
        have R : Hid (firstI s (cs.map Cmp.s) 0 = (k : Int)) := by show _ = _; rw [HF.out, FN.out, hq]; rfl
        clear hq FN HF
        go_wp2_with fail
        go_ret
        exact ⟨by rw [R.out]; rfl, B1.out⟩
      | false =>
        have R : Hid (firstI s (cs.map Cmp.s) 0 = firstI s ((cs.map Cmp.s).drop (k + 1)) (k + 1)) := by show _ = _; rw [HF.out, FN.out, hq]; rfl
        clear hq FN HF
        go_wp2_with fail
        go_round
        case rel => exact ⟨k + 1, by omega, by go_num, B1.out, R.out⟩
        case measure => simp [intOf]; omega
    · have hki : ¬ ((k : Int) < (cs.length : Int)) := by omega
      have R : Hid (firstI s (cs.map Cmp.s) 0 = -1) := by show _ = _; rw [HF.out, firstI_end _ _ _ (by rw [List.length_map]; omega)]
      go_wp2_with fail
      go_ret
      exact ⟨by rw [R.out]; rfl, HB.out⟩
set_option maxHeartbeats 1600000 in
set_option maxRecDepth 100000 in
theorem idx46 (W : World) (va : Value) (cs : List Rsc) (hC : RscRow W va cs) (hl : cs.length ≤ 1000) (p : Nat) (s : ByteArray) (hp : W.cell? ⟨p, 0, none⟩ = some (.string s)) :
    Calls Tryd.prog 46 #[va, .func (.func 47) #[] #[.pointer (some ⟨p, 0, none⟩)]] W fun e W' => e = .returned (.int .i64 (firstI s (cs.map Rsc.s) 0)) ∧ Below W.heap.size W W' := by
  obtain ⟨a, c, rfl, hcap, hlay⟩ := hC
  have HL := hid hlay
  have hli : (cs.length : Int) ≤ 1000 := by omega
  clear hlay
  go_enter Tryd.func46, Tryd.ntmps46
  go_wp2_with fail
  go_loopw [5, 8] (fun _ i wr => ∃ k : Nat, k ≤ cs.length ∧ i = .int .i64 (k : Int) ∧ Hid (Below W.heap.size W wr) ∧ Hid (firstI s (cs.map Rsc.s) 0 = firstI s ((cs.map Rsc.s).drop k) k)) (fun _ i _ => cs.length - (intOf i).toNat)
  case atStart => exact ⟨0, Nat.zero_le _, rfl, Below.refl _ _, rfl⟩
  case round =>
    obtain ⟨k, hk, rfl, HB, HF⟩ := hrel
    by_cases hlt : k < cs.length
    · have hki : (k : Int) < (cs.length : Int) := by omega
      obtain ⟨x, hx⟩ := at_lt cs k hlt
      obtain ⟨b, o, rfl, hc⟩ : ∃ b o, a = some ⟨b, o, none⟩ ∧ ∀ (j : Nat) (x : Rsc), cs[j]? = some x → W.cell? ⟨b, o + j * 2, none⟩ = some (.string x.s) ∧ W.cell? ⟨b, o + j * 2 + 1, none⟩ = some (.int .i64 x.n) := by
        rcases HL.out with h | h
        · rw [h] at hx; simp at hx
        · exact h
      obtain ⟨c0, c1⟩ := hc k x hx
      have FN := hid (firstI_next s (cs.map Rsc.s) k x.s (by rw [List.getElem?_map, hx]; rfl))
      have S := fun {p : Addr} {u : Value} (h : W.cell? p = some u) => Below.seen HB.out (Nat.le_refl _) h
      have c0 := S c0
      have c1 := S c1
      have SC := hid (same47 wr x p s (S hp))
      clear S hc hx
      go_wp2_with fail
      refine SC.out.mono ?_
      rintro e w1 ⟨rfl, b1⟩
      have B1 := hid (HB.out.trans (b1.mono HB.out.size))
      clear b1 SC c0 c1
      cases hq : eqS x.s s with
      | true =>
        have R : Hid (firstI s (cs.map Rsc.s) 0 = (k : Int)) := by show _ = _; rw [HF.out, FN.out, hq]; rfl
        clear hq FN HF
        go_wp2_with fail
        go_ret
        exact ⟨by rw [R.out]; rfl, B1.out⟩
      | false =>
        have R : Hid (firstI s (cs.map Rsc.s) 0 = firstI s ((cs.map Rsc.s).drop (k + 1)) (k + 1)) := by show _ = _; rw [HF.out, FN.out, hq]; rfl
        clear hq FN HF
        go_wp2_with fail
        go_round
        case rel => exact ⟨k + 1, by omega, by go_num, B1.out, R.out⟩
        case measure => simp [intOf]; omega
    · have hki : ¬ ((k : Int) < (cs.length : Int)) := by omega
      have R : Hid (firstI s (cs.map Rsc.s) 0 = -1) := by show _ = _; rw [HF.out, firstI_end _ _ _ (by rw [List.length_map]; omega)]
      go_wp2_with fail
      go_ret
      exact ⟨by rw [R.out]; rfl, HB.out⟩
/-- What found makes of an index. -/
def foundV (i : Int) : Value := if i < 0 then .tuple #[.int .i64 0, .bool false] else .tuple #[.int .i64 i, .bool true]
set_option maxHeartbeats 800000 in
theorem found_any (W : World) (i : Int) : Calls Tryd.prog 43 #[.int .i64 i] W fun e W' => e = .returned (foundV i) ∧ W' = W := by
  unfold foundV
  by_cases hi : i < 0
  · rw [if_pos hi]
    go_enter Tryd.func43, Tryd.ntmps43
    go_wp2_with fail
    refine bodyPost_ret (v := .tuple #[.int .i64 0, .bool false]) (by simp [results, Tryd.results43, go_sem]) rfl ⟨rfl, rfl⟩
  · rw [if_neg hi]
    go_enter Tryd.func43, Tryd.ntmps43
    go_wp2_with fail
    refine bodyPost_ret (v := .tuple #[.int .i64 i, .bool true]) (by simp [results, Tryd.results43, go_sem]) rfl ⟨rfl, rfl⟩
set_option maxHeartbeats 800000 in
set_option maxRecDepth 100000 in
theorem find_any (W : World) (va vb : Value) (hvb : ∃ a l c, vb = .slice a l c) (cs : List Cmp) (hC : CmpRow W va cs) (hl : cs.length ≤ 1000) (s : ByteArray) :
    Calls Tryd.prog 13 #[.agg #[va, vb], .string s] W fun e W' => e = .returned (foundV (firstI s (cs.map Cmp.s) 0)) ∧ Below W.heap.size W W' := by
  have B1 : Hid (Below W.heap.size W ((W.alloc (.cells #[va, vb] 25)).alloc (.cells #[.string s] 9))) := ((Below.refl _ _).alloc (Nat.le_refl _) _).alloc (by simp) _
  have HP : ((W.alloc (.cells #[va, vb] 25)).alloc (.cells #[.string s] 9)).cell? ⟨W.heap.size + 1, 0, none⟩ = some (.string s) := by
    have := row_cell (W.alloc (.cells #[va, vb] 25)) [.string s] 9 0 (.string s) rfl
    simp only [World.alloc, Array.size_push] at this ⊢
    exact this
  have HI := hid (idx44 _ va cs (hC.later B1.out) hl (W.heap.size + 1) s HP)
  have hvc : ∃ a l c, va = .slice a l c := by
    obtain ⟨a, c, h, _⟩ := hC
    exact ⟨_, _, _, h⟩
  generalize firstI s (cs.map Cmp.s) 0 = i at HI ⊢
  have HF := hid (fun w => found_any w i)
  clear hC hl HP
  obtain ⟨a, l, c, rfl⟩ := hvb
  obtain ⟨a', l', c', rfl⟩ := hvc
  go_enter Tryd.func13, Tryd.ntmps13
  go_wp2_with fail
  refine HI.out.mono ?_
  rintro e w1 ⟨rfl, b1⟩
  have B2 := hid (B1.out.trans (b1.mono B1.out.size))
  clear b1 HI B1
  go_wp2_with fail
  refine (HF.out _).mono ?_
  rintro e w2 ⟨rfl, rfl⟩
  clear HF
  unfold foundV
  by_cases hi : i < 0
  · simp only [if_pos hi]
    go_wp2_with fail
    refine bodyPost_ret (v := .tuple #[.int .i64 0, .bool false]) (by simp [results, Tryd.results13, go_sem]) rfl ⟨by unfold foundV; rw [if_pos hi], B2.out⟩
  · simp only [if_neg hi]
    go_wp2_with fail
    refine bodyPost_ret (v := .tuple #[.int .i64 i, .bool true]) (by simp [results, Tryd.results13, go_sem]) rfl ⟨by unfold foundV; rw [if_neg (by omega)], B2.out⟩
set_option maxHeartbeats 800000 in
set_option maxRecDepth 100000 in
theorem resource_any (W : World) (va vb : Value) (hvb : ∃ a l c, va = .slice a l c) (cs : List Rsc) (hC : RscRow W vb cs) (hl : cs.length ≤ 1000) (s : ByteArray) :
    Calls Tryd.prog 15 #[.agg #[va, vb], .string s] W fun e W' => e = .returned (foundV (firstI s (cs.map Rsc.s) 0)) ∧ Below W.heap.size W W' := by
  have B1 : Hid (Below W.heap.size W ((W.alloc (.cells #[va, vb] 25)).alloc (.cells #[.string s] 9))) := ((Below.refl _ _).alloc (Nat.le_refl _) _).alloc (by simp) _
  have HP : ((W.alloc (.cells #[va, vb] 25)).alloc (.cells #[.string s] 9)).cell? ⟨W.heap.size + 1, 0, none⟩ = some (.string s) := by
    have := row_cell (W.alloc (.cells #[va, vb] 25)) [.string s] 9 0 (.string s) rfl
    simp only [World.alloc, Array.size_push] at this ⊢
    exact this
  have HI := hid (idx46 _ vb cs (hC.later B1.out) hl (W.heap.size + 1) s HP)
  have hvc : ∃ a l c, vb = .slice a l c := by
    obtain ⟨a, c, h, _⟩ := hC
    exact ⟨_, _, _, h⟩
  generalize firstI s (cs.map Rsc.s) 0 = i at HI ⊢
  have HF := hid (fun w => found_any w i)
  clear hC hl HP
  obtain ⟨a, l, c, rfl⟩ := hvb
  obtain ⟨a', l', c', rfl⟩ := hvc
  go_enter Tryd.func15, Tryd.ntmps15
  go_wp2_with fail
  refine HI.out.mono ?_
  rintro e w1 ⟨rfl, b1⟩
  have B2 := hid (B1.out.trans (b1.mono B1.out.size))
  clear b1 HI B1
  go_wp2_with fail
  refine (HF.out _).mono ?_
  rintro e w2 ⟨rfl, rfl⟩
  clear HF
  unfold foundV
  by_cases hi : i < 0
  · simp only [if_pos hi]
    go_wp2_with fail
    refine bodyPost_ret (v := .tuple #[.int .i64 0, .bool false]) (by simp [results, Tryd.results15, go_sem]) rfl ⟨by unfold foundV; rw [if_pos hi], B2.out⟩
  · simp only [if_neg hi]
    go_wp2_with fail
    refine bodyPost_ret (v := .tuple #[.int .i64 i, .bool true]) (by simp [results, Tryd.results15, go_sem]) rfl ⟨by unfold foundV; rw [if_neg (by omega)], B2.out⟩
end Go.Proofs.YtmekfiafdjdopaaDoor
