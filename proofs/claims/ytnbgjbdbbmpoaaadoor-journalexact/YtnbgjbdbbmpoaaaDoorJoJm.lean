/- A journal: slices.Backward, at stretches and at entries. -/
import Derived.Test.YtnbgjbdbbmpoaaaDoorJoJl
import Derived.Test.YtnbgjbdbbmpoaaaDoorKg
import Derived.RangeFuncNested
import Derived.RangeFuncLeaves
import Derived.Shelf.Abstract
import Derived.WalkKit
import Derived.OwnWalkIn
import Derived.TacticsInMore
import Derived.LoopNIn
import Derived.LoopIn
namespace Go.Proofs.YtnbgjbdbbmpoaaaDoor.Jo
open Go.RowKit Go.Shelf Go.Maps
attribute [local go_sem] Oper.semAt_some
/-- What the rounds of behind leave as it was: all that lay, and all cells but the list. -/
structure Kq (n₀ tb : Nat) (A B : World) : Prop where
  size : A.heap.size ≤ B.heap.size
  keep : ∀ k o, A.heap[k]? = some o → (k < n₀ ∨ (k ≠ tb ∧ ∃ cs e, o = .cells cs e (0, 0) ∧ e ≠ 38)) → B.heap[k]? = some o
theorem Kq.refl (n₀ tb : Nat) (A : World) : Kq n₀ tb A A := ⟨Nat.le_refl _, fun _ _ h _ => h⟩
theorem Kq.trans {n₀ tb : Nat} {A B C : World} (h : Kq n₀ tb A B) (k : Kq n₀ tb B C) : Kq n₀ tb A C := ⟨Nat.le_trans h.size k.size, fun i o hi q => k.keep i o (h.keep i o hi q) q⟩
theorem Kq.box {n₀ tb k : Nat} {A B : World} {cs : Array Value} {e : TypeId} (h : Kq n₀ tb A B) (hk : A.heap[k]? = some (.cells cs e (0, 0))) (hne : k ≠ tb) (he : e ≠ 38) : B.heap[k]? = some (.cells cs e (0, 0)) := h.keep k _ hk (.inr ⟨hne, cs, e, rfl, he⟩)
theorem Kq.put {n₀ tb : Nat} {w : World} (hn : n₀ ≤ w.heap.size) (W : World) (l : Nat) (o o' : Obj) (hl : w.heap.size ≤ l) (h : W.heap[l]? = some o) (hc : o.isCells = false) (_ : o.isWalk = false) : Kq n₀ tb W (W.putObj l o') :=
  ⟨by simp, fun k q hk hq => by
    by_cases e : k = l
    · subst e
      rw [h] at hk
      cases hk
      rcases hq with hq | ⟨-, cs, t, rfl, -⟩
      · omega
      · cases hc
    · exact (World.putObj_heap_other e).trans hk⟩
theorem Kq.of_below {n₀ tb : Nat} {A B : World} (h : Below A.heap.size A B) : Kq n₀ tb A B := ⟨h.size, fun _ _ hk _ => blk_seen h (Nat.le_refl _) hk⟩
theorem Lie.kq {n₀ tb : Nat} {A B : World} {e : TypeId} {sz : Nat} {v : Value} {n : Nat} {xs : List Value} (h : Lie A e sz v n xs) (k : Kq n₀ tb A B) (hl : ∀ k, v.ownBlock = some k → k < n₀) : Lie B e sz v n xs :=
  ⟨h.1, h.2.elim .inl fun ⟨g, off, cap, cur, h1, h2, h3⟩ => .inr ⟨g, off, cap, cur, h1, k.keep g _ h2 (.inl (hl g (by rw [h1]; rfl))), h3⟩⟩
/-- What one round of slices.Backward hands over (S). -/
def encS (l : List Sx) (x : Fin l.length) : Array Value := #[.int .i64 (x.val : Int), .agg #[.int .i64 (l.get x).f, (l.get x).ev]]
set_option maxRecDepth 100000 in
set_option maxHeartbeats 1600000 in
theorem back1_S (F : Fence) (n : Nat) (h5 : F.fn 55) (hro : F.round = none) (hn : 1 ≤ n) (lp Bn n₀ tb : Nat) (v : Value) (l : List Sx) (J Jx : List (Fin l.length) → World → Prop)
    (hY : ∀ pre x W, J pre W → pre.length < l.length → YieldAt F (n - 1) Tryd.prog lp (encS l x) W fun e W' => (e = .returned (.bool true) ∧ J (pre ++ [x]) W' ∧ Kq n₀ tb W W') ∨ (e = .returned (.bool false) ∧ Jx (pre ++ [x]) W'))
    (W : World) (hBn : W.heap[Bn]? = some (.cells #[v] 65 (0, 0))) (hne : Bn ≠ tb) (hL : Lie W 75 2 v l.length (sCells l)) (hlow : ∀ k, v.ownBlock = some k → k < n₀) (hlen : l.length ≤ 1073741825) (h0 : J [] W) :
    CallsIn F n Tryd.prog 55 #[.func (.yield lp) #[] #[], .pointer (some ⟨Bn, 0, none⟩)] W fun e W' => (∃ v, e = .returned v) ∧ ((∃ ys, ys = (List.finRange l.length).reverse ∧ J ys W') ∨ (∃ pre, True ∧ Jx pre W')) := by
  obtain ⟨a, c, rfl⟩ := hL.form
  have hli : (l.length : Int) ≤ 1073741825 := by omega
  have cb := cell_blk (j := 0) hBn rfl
  have HB := hid hBn
  have HL := hid hL
  have HY := hid hY
  have HLo := hid hlow
  clear hBn hL hY hlow
  refine callsIn_of_wp Tryd.func55 rfl h5 ?_ hro
  simp only [Tryd.ntmps55, List.size_toArray, List.length_cons, List.length_nil, Nat.reduceAdd, Nat.reduceSub, Array.replicate_succ, Array.replicate_zero, List.push_toArray, List.append_toArray, List.nil_append, List.cons_append]
  gi_wp2
  clear cb
  gi_loopw [3] (fun p wr => ∃ c : Nat, c ≤ l.length ∧ p = .int .i64 ((c : Int) - 1) ∧ Hid (J ((List.finRange l.length).reverse.take (l.length - c)) wr) ∧ Hid (Kq n₀ tb W wr)) (fun p _ => (intOf p + 1).toNat)
  case atStart => exact ⟨l.length, Nat.le_refl _, rfl, by show J _ _; simpa using h0, Kq.refl _ _ _⟩
  case round =>
    obtain ⟨c', hc, rfl, HJ, HK⟩ := hrel
    have hbx := HK.out.box HB.out hne (by decide)
    have cb := cell_blk (j := 0) hbx rfl
    have LW := HL.out.kq HK.out HLo.out
    clear hbx
    cases c' with
    | zero =>
      have z : ((0 : Nat) : Int) - 1 = -1 := by omega
      rw [z]
      gi_wp2
      go_end0
      exact ⟨⟨_, rfl⟩, .inl ⟨_, rfl, by have := HJ.out; rwa [Nat.sub_zero, List.take_of_length_le (by simp)] at this⟩⟩
    | succ k =>
      have z : ((k + 1 : Nat) : Int) - 1 = (k : Int) := by omega
      rw [z]
      have hk : k < l.length := by omega
      obtain ⟨s, hs⟩ : ∃ s, l[k]? = some s := ⟨_, List.getElem?_eq_getElem hk⟩
      obtain ⟨g, off, cap, e, -, -, hcl⟩ := LW.pos (by omega)
      obtain ⟨rfl, rfl⟩ : a = some ⟨g, off, none⟩ ∧ c = cap := by simpa using e
      obtain ⟨q1, q2⟩ := sCells_at l _ s hs
      have d0 := hcl (k * 2) (by omega)
      have d1 := hcl (k * 2 + 1) (by omega)
      rw [q1] at d0
      rw [q2, ← Nat.add_assoc] at d1
      clear q1 q2
      have hki : (k : Int) < (l.length : Int) := by omega
      have eE : encS l ⟨k, hk⟩ = #[.int .i64 (k : Int), .agg #[.int .i64 s.f, s.ev]] := by
        have q : l.get ⟨k, hk⟩ = s := by
          have := List.getElem?_eq_getElem hk
          rw [hs] at this
          simpa using this.symm
        unfold encS
        rw [q]
      obtain ⟨fn, tmps, assign, body, hy, hR⟩ := HY.out _ ⟨k, hk⟩ wr HJ.out (by simp; omega)
      rw [eE] at hy
      have HR := hid hR
      have tk : (List.finRange l.length).reverse.take (l.length - (k + 1)) ++ [⟨k, hk⟩] = (List.finRange l.length).reverse.take (l.length - k) := by
        rw [show l.length - k = l.length - (k + 1) + 1 by omega, List.take_succ_eq_append_getElem (by simp; omega)]
        congr 1
        simp [List.getElem_reverse]
        omega
      have TK := hid tk
      clear hcl hs LW e eE hR tk
      gi_wp2
      refine HR.out.mono ?_
      rintro e W3 (⟨rfl, hJ3, hk3⟩ | ⟨rfl, hJx3⟩)
      · rw [TK.out] at hJ3
        have J3 := hid hJ3
        have K3 := hid (HK.out.trans hk3)
        clear hJ3 hk3
        gi_wp2
        go_roundw
        case rel => exact ⟨k, by omega, by go_num, J3.out, K3.out⟩
        case measure => simp [intOf]
      · have J3 := hid hJx3
        clear hJx3
        gi_wp2
        refine bodyPost_ret (results_none rfl _ _ _) rfl ?_
        exact ⟨⟨_, rfl⟩, .inr ⟨_, trivial, J3.out⟩⟩
theorem back_stops_S (F : Fence) (n : Nat) (h5 : F.fn 55) (hro : F.round = none) (hn : 1 ≤ n) (Bn n₀ tb : Nat) (v : Value) (l : List Sx) (w : World) (hBn : w.heap[Bn]? = some (.cells #[v] 65 (0, 0))) (hne : Bn ≠ tb) (hL : Lie w 75 2 v l.length (sCells l)) (hlow : ∀ k, v.ownBlock = some k → k < n₀) (hlen : l.length ≤ 1073741825) :
    SeqStopsK F n Tryd.prog 55 #[.pointer (some ⟨Bn, 0, none⟩)] (encS l) (Kq n₀ tb) (fun ys => ys = (List.finRange l.length).reverse) (fun _ => True) l.length w := fun lp J Jx W hW _ _ hY h0 =>
  back1_S F n h5 hro hn lp Bn n₀ tb v l J Jx hY W (blk_seen hW (Nat.le_refl _) hBn) hne (hL.later hW) hlow hlen h0
set_option maxHeartbeats 800000 in
theorem back_S (v : Value) (hv : ∃ a n c, v = .slice a n c) (W : World) :
    Calls Tryd.prog 46 #[v] W fun e W' => e = .returned (.func (.func 55) #[] #[.pointer (some ⟨W.heap.size, 0, none⟩)]) ∧ W' = W.alloc (.cells #[v] 65) := by
  obtain ⟨a, n, c, rfl⟩ := hv
  go_enter Tryd.func46, Tryd.ntmps46
  go_wp2_with fail
  go_ret
  exact ⟨rfl, rfl⟩
/-- What one round of slices.Backward hands over (U). -/
def encU (l : List Ue) (x : Fin l.length) : Array Value := #[.int .i64 (x.val : Int), .agg #[.int .i64 (l.get x).k, .int .i64 (l.get x).id, .int .i64 (l.get x).p.c, .int .i64 (l.get x).p.v0, .int .i64 (l.get x).p.v1, .int .i64 (l.get x).p.v2, .int .i64 (l.get x).p.v3, .int .i64 (l.get x).p.t, (l.get x).pv, .int .i64 (l.get x).n, .int .i64 (l.get x).o]]
set_option maxRecDepth 100000 in
set_option maxHeartbeats 1600000 in
theorem back1_U (F : Fence) (n : Nat) (h5 : F.fn 56) (hro : F.round = none) (hn : 1 ≤ n) (lp Bn n₀ tb : Nat) (v : Value) (l : List Ue) (J Jx : List (Fin l.length) → World → Prop)
    (hY : ∀ pre x W, J pre W → pre.length < l.length → YieldAt F (n - 1) Tryd.prog lp (encU l x) W fun e W' => (e = .returned (.bool true) ∧ J (pre ++ [x]) W' ∧ Kq n₀ tb W W') ∨ (e = .returned (.bool false) ∧ Jx (pre ++ [x]) W'))
    (W : World) (hBn : W.heap[Bn]? = some (.cells #[v] 41 (0, 0))) (hne : Bn ≠ tb) (hL : Lie W 38 11 v l.length (uCells l)) (hlow : ∀ k, v.ownBlock = some k → k < n₀) (hlen : l.length ≤ 1073741825) (h0 : J [] W) :
    CallsIn F n Tryd.prog 56 #[.func (.yield lp) #[] #[], .pointer (some ⟨Bn, 0, none⟩)] W fun e W' => (∃ v, e = .returned v) ∧ ((∃ ys, ys = (List.finRange l.length).reverse ∧ J ys W') ∨ (∃ pre, True ∧ Jx pre W')) := by
  obtain ⟨a, c, rfl⟩ := hL.form
  have hli : (l.length : Int) ≤ 1073741825 := by omega
  have cb := cell_blk (j := 0) hBn rfl
  have HB := hid hBn
  have HL := hid hL
  have HY := hid hY
  have HLo := hid hlow
  clear hBn hL hY hlow
  refine callsIn_of_wp Tryd.func56 rfl h5 ?_ hro
  simp only [Tryd.ntmps56, List.size_toArray, List.length_cons, List.length_nil, Nat.reduceAdd, Nat.reduceSub, Array.replicate_succ, Array.replicate_zero, List.push_toArray, List.append_toArray, List.nil_append, List.cons_append]
  gi_wp2
  clear cb
  gi_loopw [3] (fun p wr => ∃ c : Nat, c ≤ l.length ∧ p = .int .i64 ((c : Int) - 1) ∧ Hid (J ((List.finRange l.length).reverse.take (l.length - c)) wr) ∧ Hid (Kq n₀ tb W wr)) (fun p _ => (intOf p + 1).toNat)
  case atStart => exact ⟨l.length, Nat.le_refl _, rfl, by show J _ _; simpa using h0, Kq.refl _ _ _⟩
  case round =>
    obtain ⟨c', hc, rfl, HJ, HK⟩ := hrel
    have hbx := HK.out.box HB.out hne (by decide)
    have cb := cell_blk (j := 0) hbx rfl
    have LW := HL.out.kq HK.out HLo.out
    clear hbx
    cases c' with
    | zero =>
      have z : ((0 : Nat) : Int) - 1 = -1 := by omega
      rw [z]
      gi_wp2
      go_end0
      exact ⟨⟨_, rfl⟩, .inl ⟨_, rfl, by have := HJ.out; rwa [Nat.sub_zero, List.take_of_length_le (by simp)] at this⟩⟩
    | succ k =>
      have z : ((k + 1 : Nat) : Int) - 1 = (k : Int) := by omega
      rw [z]
      have hk : k < l.length := by omega
      obtain ⟨s, hs⟩ : ∃ s, l[k]? = some s := ⟨_, List.getElem?_eq_getElem hk⟩
      obtain ⟨g, off, cap, e, -, -, hcl⟩ := LW.pos (by omega)
      obtain ⟨rfl, rfl⟩ : a = some ⟨g, off, none⟩ ∧ c = cap := by simpa using e
      have qq := uCells_at l _ s hs
      have d0 := hcl (k * 11 + 0) (by omega)
      rw [qq 0 (by decide), ← Nat.add_assoc] at d0
      have d1 := hcl (k * 11 + 1) (by omega)
      rw [qq 1 (by decide), ← Nat.add_assoc] at d1
      have d2 := hcl (k * 11 + 2) (by omega)
      rw [qq 2 (by decide), ← Nat.add_assoc] at d2
      have d3 := hcl (k * 11 + 3) (by omega)
      rw [qq 3 (by decide), ← Nat.add_assoc] at d3
      have d4 := hcl (k * 11 + 4) (by omega)
      rw [qq 4 (by decide), ← Nat.add_assoc] at d4
      have d5 := hcl (k * 11 + 5) (by omega)
      rw [qq 5 (by decide), ← Nat.add_assoc] at d5
      have d6 := hcl (k * 11 + 6) (by omega)
      rw [qq 6 (by decide), ← Nat.add_assoc] at d6
      have d7 := hcl (k * 11 + 7) (by omega)
      rw [qq 7 (by decide), ← Nat.add_assoc] at d7
      have d8 := hcl (k * 11 + 8) (by omega)
      rw [qq 8 (by decide), ← Nat.add_assoc] at d8
      have d9 := hcl (k * 11 + 9) (by omega)
      rw [qq 9 (by decide), ← Nat.add_assoc] at d9
      have d10 := hcl (k * 11 + 10) (by omega)
      rw [qq 10 (by decide), ← Nat.add_assoc] at d10
      simp only [Ue.arr, List.getElem?_toArray, List.getElem?_cons_zero, List.getElem?_cons_succ, Nat.add_zero] at d0 d1 d2 d3 d4 d5 d6 d7 d8 d9 d10
      clear qq
      have hki : (k : Int) < (l.length : Int) := by omega
      have eE : encU l ⟨k, hk⟩ = #[.int .i64 (k : Int), .agg #[.int .i64 s.k, .int .i64 s.id, .int .i64 s.p.c, .int .i64 s.p.v0, .int .i64 s.p.v1, .int .i64 s.p.v2, .int .i64 s.p.v3, .int .i64 s.p.t, s.pv, .int .i64 s.n, .int .i64 s.o]] := by
        have q : l.get ⟨k, hk⟩ = s := by
          have := List.getElem?_eq_getElem hk
          rw [hs] at this
          simpa using this.symm
        unfold encU
        rw [q]
      obtain ⟨fn, tmps, assign, body, hy, hR⟩ := HY.out _ ⟨k, hk⟩ wr HJ.out (by simp; omega)
      rw [eE] at hy
      have HR := hid hR
      have tk : (List.finRange l.length).reverse.take (l.length - (k + 1)) ++ [⟨k, hk⟩] = (List.finRange l.length).reverse.take (l.length - k) := by
        rw [show l.length - k = l.length - (k + 1) + 1 by omega, List.take_succ_eq_append_getElem (by simp; omega)]
        congr 1
        simp [List.getElem_reverse]
        omega
      have TK := hid tk
      clear hcl hs LW e eE hR tk
      gi_wp2
      refine HR.out.mono ?_
      rintro e W3 (⟨rfl, hJ3, hk3⟩ | ⟨rfl, hJx3⟩)
      · rw [TK.out] at hJ3
        have J3 := hid hJ3
        have K3 := hid (HK.out.trans hk3)
        clear hJ3 hk3
        gi_wp2
        go_roundw
        case rel => exact ⟨k, by omega, by go_num, J3.out, K3.out⟩
        case measure => simp [intOf]
      · have J3 := hid hJx3
        clear hJx3
        gi_wp2
        refine bodyPost_ret (results_none rfl _ _ _) rfl ?_
        exact ⟨⟨_, rfl⟩, .inr ⟨_, trivial, J3.out⟩⟩
theorem back_stops_U (F : Fence) (n : Nat) (h5 : F.fn 56) (hro : F.round = none) (hn : 1 ≤ n) (Bn n₀ tb : Nat) (v : Value) (l : List Ue) (w : World) (hBn : w.heap[Bn]? = some (.cells #[v] 41 (0, 0))) (hne : Bn ≠ tb) (hL : Lie w 38 11 v l.length (uCells l)) (hlow : ∀ k, v.ownBlock = some k → k < n₀) (hlen : l.length ≤ 1073741825) :
    SeqStopsK F n Tryd.prog 56 #[.pointer (some ⟨Bn, 0, none⟩)] (encU l) (Kq n₀ tb) (fun ys => ys = (List.finRange l.length).reverse) (fun _ => True) l.length w := fun lp J Jx W hW _ _ hY h0 =>
  back1_U F n h5 hro hn lp Bn n₀ tb v l J Jx hY W (blk_seen hW (Nat.le_refl _) hBn) hne (hL.later hW) hlow hlen h0
set_option maxHeartbeats 800000 in
theorem back_U (v : Value) (hv : ∃ a n c, v = .slice a n c) (W : World) :
    Calls Tryd.prog 47 #[v] W fun e W' => e = .returned (.func (.func 56) #[] #[.pointer (some ⟨W.heap.size, 0, none⟩)]) ∧ W' = W.alloc (.cells #[v] 41) := by
  obtain ⟨a, n, c, rfl⟩ := hv
  go_enter Tryd.func47, Tryd.ntmps47
  go_wp2_with fail
  go_ret
  exact ⟨rfl, rfl⟩
end Go.Proofs.YtnbgjbdbbmpoaaaDoor.Jo
