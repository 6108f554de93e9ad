/- A journal: where a frame is among the marks. -/
import Derived.Test.YtnbgjbdbbmpoaaaDoorJoJd
namespace Go.Proofs.YtnbgjbdbbmpoaaaDoor.Jo
open Go.RowKit Go.Shelf Go.Maps
/-- How two numbers compare. -/
def cmpI (a b : Int) : Int := if a < b then -1 else if b < a then 1 else 0
set_option maxHeartbeats 800000 in
theorem nan_any (a : Int) (W : World) : Calls Tryd.prog 57 #[.int .i64 a] W fun e W' => e = .returned (.bool false) ∧ W' = W := by
  go_enter Tryd.func57, Tryd.ntmps57
  go_wp2_with fail
  go_ret
  exact ⟨by simp, rfl⟩
set_option maxHeartbeats 800000 in
theorem cmp_any (a b : Int) (W : World) : Calls Tryd.prog 50 #[.int .i64 a, .int .i64 b] W fun e W' => e = .returned (.int .i64 (cmpI a b)) ∧ W' = W := by
  have C := hid (fun x => nan_any x W)
  have R : Hid (cmpI a b = if a < b then -1 else if b < a then 1 else 0) := rfl
  by_cases h : a < b
  · have R2 : Hid (cmpI a b = -1) := by show _ = _; rw [R.out, if_pos h]
    clear R
    go_enter Tryd.func50, Tryd.ntmps50
    go_wp2_with (go_at_call 57; refine (C.out _).mono ?_; rintro e w' ⟨rfl, hq⟩; obtain rfl := hq.symm)
    go_ret
    exact ⟨by rw [R2.out]; rfl, rfl⟩
  · by_cases h2 : b < a
    · have R2 : Hid (cmpI a b = 1) := by show _ = _; rw [R.out, if_neg h, if_pos h2]
      clear R
      go_enter Tryd.func50, Tryd.ntmps50
      go_wp2_with (go_at_call 57; refine (C.out _).mono ?_; rintro e w' ⟨rfl, hq⟩; obtain rfl := hq.symm)
      go_ret
      exact ⟨by rw [R2.out]; rfl, rfl⟩
    · have R2 : Hid (cmpI a b = 0) := by show _ = _; rw [R.out, if_neg h, if_neg h2]
      clear R
      go_enter Tryd.func50, Tryd.ntmps50
      go_wp2_with (go_at_call 57; refine (C.out _).mono ?_; rintro e w' ⟨rfl, hq⟩; obtain rfl := hq.symm)
      go_ret
      exact ⟨by rw [R2.out]; rfl, rfl⟩
set_option maxHeartbeats 800000 in
theorem place1_any (f : Int) (ev : Value) (x : Int) (W : World) :
    Calls Tryd.prog 49 #[.agg #[.int .i64 f, ev], .int .i64 x] W fun e W' => e = .returned (.int .i64 (cmpI f x)) ∧ Below W.heap.size W W' := by
  have C := hid (cmp_any f x)
  go_enter Tryd.func49, Tryd.ntmps49
  go_wp2_with fail
  refine (C.out _).mono ?_
  rintro e w' ⟨rfl, hq⟩
  obtain rfl := hq.symm
  go_wp2_with fail
  go_ret
  exact ⟨rfl, bAl _ _⟩
/-- How many marks are below a frame; whether it is marked. -/
def belowN (st : List Sx) (x : Int) : Nat := st.countP fun s => decide (s.f < x)
def markedB (st : List Sx) (x : Int) : Bool := st.any fun s => s.f == x
theorem up_lt {st : List Sx} (h : (st.map Sx.f).Pairwise (· < ·)) {i j : Nat} {a b : Sx} (hi : st[i]? = some a) (hj : st[j]? = some b) (hij : i < j) : a.f < b.f := by
  have hi' : (st.map Sx.f)[i]? = some a.f := by simp [hi]
  have hj' : (st.map Sx.f)[j]? = some b.f := by simp [hj]
  obtain ⟨l1, e1⟩ := List.getElem?_eq_some_iff.1 hi'
  obtain ⟨l2, e2⟩ := List.getElem?_eq_some_iff.1 hj'
  have := List.pairwise_iff_getElem.1 h i j l1 l2 hij
  rw [e1, e2] at this
  exact this
theorem below_at {st : List Sx} {x : Int} {i : Nat} (hi : i ≤ st.length) (h1 : ∀ j s, j < i → st[j]? = some s → s.f < x) (h2 : ∀ j s, i ≤ j → st[j]? = some s → ¬ s.f < x) : belowN st x = i := by
  unfold belowN
  induction st generalizing i with
  | nil => simp at hi; simp [hi]
  | cons s st ih =>
    cases i with
    | zero =>
      rw [List.countP_eq_zero]
      intro a ha
      obtain ⟨j, hj, rfl⟩ := List.getElem_of_mem ha
      simpa using h2 j _ (Nat.zero_le _) (List.getElem?_eq_getElem hj)
    | succ i =>
      have hs := h1 0 s (by omega) (by simp)
      rw [List.countP_cons_of_pos (by simpa using hs), ih (by simpa using hi) (fun j t hj ht => h1 (j + 1) t (by omega) (by simpa using ht)) (fun j t hj ht => h2 (j + 1) t (by omega) (by simpa using ht))]
theorem marked_at {st : List Sx} {x : Int} {i : Nat} (h : (st.map Sx.f).Pairwise (· < ·)) (h1 : ∀ j s, j < i → st[j]? = some s → s.f < x) (h2 : ∀ j s, i ≤ j → st[j]? = some s → ¬ s.f < x) : markedB st x = match st[i]? with | some s => s.f == x | none => false := by
  unfold markedB
  cases hs : st[i]? with
  | none =>
    rw [List.any_eq_false]
    intro a ha
    obtain ⟨j, hj, rfl⟩ := List.getElem_of_mem ha
    have := h1 j _ (by have := List.getElem?_eq_none_iff.1 hs; omega) (List.getElem?_eq_getElem hj)
    simp
    omega
  | some s =>
    rw [Bool.eq_iff_iff, List.any_eq_true]
    constructor
    · rintro ⟨a, ha, e⟩
      obtain ⟨j, hj, rfl⟩ := List.getElem_of_mem ha
      have e' : st[j].f = x := by simpa using e
      rcases Nat.lt_trichotomy j i with q | q | q
      · have := h1 j _ q (List.getElem?_eq_getElem hj)
        omega
      · subst q
        rw [List.getElem?_eq_getElem hj] at hs
        cases hs
        exact e
      · have := up_lt h hs (List.getElem?_eq_getElem hj) q
        have := h2 i s (Nat.le_refl _) hs
        omega
    · intro e
      exact ⟨s, List.mem_of_getElem? hs, e⟩
section
variable {B : Nat} {W W' : World} {jb : Nat} {sv mv : Value} {most : Nat} {st : List Sx} {Ad : Nat → Addr}
set_option maxHeartbeats 1600000 in
set_option maxRecDepth 100000 in
theorem search_any (h : Lie W 75 2 sv st.length (sCells st)) (hup : (st.map Sx.f).Pairwise (· < ·)) (hl : st.length ≤ 1073741825) (x : Int) :
    Calls Tryd.prog 48 #[sv, .int .i64 x, .func (.func 49) #[] #[]] W fun e W' => e = .returned (.tuple #[.int .i64 (belowN st x : Int), .bool (markedB st x)]) ∧ Below W.heap.size W W' := by
  obtain ⟨a, c, rfl⟩ := h.form
  have H := hid h
  have U := hid hup
  have C := hid (fun f ev W => place1_any f ev x W)
  have hli : (st.length : Int) ≤ 1073741825 := by omega
  clear h hup
  go_enter Tryd.func48, Tryd.ntmps48
  go_wp2_with fail
  go_loopg [9, 10] st.length (fun kx s9 s10 wr => ∃ lo hi : Nat, s9 = .int .i64 (lo : Int) ∧ s10 = .int .i64 (hi : Int) ∧ lo ≤ hi ∧ hi ≤ st.length ∧ hi - lo ≤ kx ∧ Hid (Below W.heap.size W wr) ∧
    Hid ((∀ j s, j < lo → st[j]? = some s → s.f < x) ∧ (∀ j s, hi ≤ j → st[j]? = some s → x ≤ s.f)))
  case atStart => exact ⟨0, st.length, rfl, rfl, Nat.zero_le _, Nat.le_refl _, by omega, Below.refl _ _, (⟨fun j s hj => by omega, fun j s hj hs => by rw [List.getElem?_eq_none hj] at hs; cases hs⟩ : (∀ j s, j < 0 → st[j]? = some s → s.f < x) ∧ (∀ j s, st.length ≤ j → st[j]? = some s → x ≤ s.f))⟩
  case round =>
    rename World => wr
    obtain ⟨lo, hi, rfl, rfl, hlh, hin, hg, HB, I⟩ := hrel
    by_cases hlt : lo < hi
    · obtain ⟨s, hs⟩ : ∃ s, st[(lo + hi) / 2]? = some s := ⟨_, List.getElem?_eq_getElem (by omega)⟩
      obtain ⟨g, off, cap, e, -, -, hc⟩ := (H.out.later HB.out).pos (by omega)
      obtain ⟨rfl, rfl⟩ : a = some ⟨g, off, none⟩ ∧ c = cap := by simpa using e
      obtain ⟨q1, q2⟩ := sCells_at st _ s hs
      have d0 := hc ((lo + hi) / 2 * 2) (by omega)
      have d1 := hc ((lo + hi) / 2 * 2 + 1) (by omega)
      rw [q1] at d0
      rw [q2] at d1
      rw [← Nat.add_assoc] at d1
      have C2 := hid (C.out s.f s.ev wr)
      have hm : (((lo + hi) / 2 : Nat) : Int) < (st.length : Int) := by omega
      by_cases hyx : s.f < x
      · have e0 : Hid (cmpI s.f x = -1) := by show _ = _; unfold cmpI; rw [if_pos hyx]
        rw [e0.out] at C2
        clear hc e q1 q2
        go_wp2_with fail
        refine C2.out.mono ?_
        rintro e w' ⟨rfl, hb⟩
        go_wp2_with fail
        go_roundg (hi - ((lo + hi) / 2 + 1))
        case measure => omega
        case rel =>
          refine ⟨(lo + hi) / 2 + 1, hi, by go_num, rfl, by omega, hin, Nat.le_refl _, HB.out.trans (hb.mono HB.out.size), ?_⟩
          exact (⟨fun j t hj ht => by
            by_cases q : j = (lo + hi) / 2
            · subst q; rw [hs] at ht; cases ht; exact hyx
            · have := up_lt U.out ht hs (by omega); omega, I.out.2⟩ : (∀ j t, j < (lo + hi) / 2 + 1 → st[j]? = some t → t.f < x) ∧ (∀ j t, hi ≤ j → st[j]? = some t → x ≤ t.f))
      · have hz : cmpI s.f x = 0 ∨ cmpI s.f x = 1 := by
          unfold cmpI
          rw [if_neg hyx]
          split
          · exact .inr rfl
          · exact .inl rfl
        rcases hz with hz | hz
        · rw [hz] at C2
          clear hc e q1 q2 hz
          go_wp2_with fail
          refine C2.out.mono ?_
          rintro e w' ⟨rfl, hb⟩
          go_wp2_with fail
          go_roundg ((lo + hi) / 2 - lo)
          case measure => omega
          case rel =>
            refine ⟨lo, (lo + hi) / 2, rfl, by go_num, by omega, by omega, Nat.le_refl _, HB.out.trans (hb.mono HB.out.size), ?_⟩
            exact (⟨I.out.1, fun j t hj ht => by
              by_cases q : j = (lo + hi) / 2
              · subst q; rw [hs] at ht; cases ht; omega
              · have := up_lt U.out hs ht (by omega); omega⟩ : (∀ j t, j < lo → st[j]? = some t → t.f < x) ∧ (∀ j t, (lo + hi) / 2 ≤ j → st[j]? = some t → x ≤ t.f))
        · rw [hz] at C2
          clear hc e q1 q2 hz
          go_wp2_with fail
          refine C2.out.mono ?_
          rintro e w' ⟨rfl, hb⟩
          go_wp2_with fail
          go_roundg ((lo + hi) / 2 - lo)
          case measure => omega
          case rel =>
            refine ⟨lo, (lo + hi) / 2, rfl, by go_num, by omega, by omega, Nat.le_refl _, HB.out.trans (hb.mono HB.out.size), ?_⟩
            exact (⟨I.out.1, fun j t hj ht => by
              by_cases q : j = (lo + hi) / 2
              · subst q; rw [hs] at ht; cases ht; omega
              · have := up_lt U.out hs ht (by omega); omega⟩ : (∀ j t, j < lo → st[j]? = some t → t.f < x) ∧ (∀ j t, (lo + hi) / 2 ≤ j → st[j]? = some t → x ≤ t.f))
    · obtain rfl : hi = lo := by omega
      have R1 := hid (below_at hin I.out.1 (fun j s a b => by have := I.out.2 j s a b; omega))
      have R2 := hid (marked_at U.out I.out.1 (fun j s a b => by have := I.out.2 j s a b; omega))
      by_cases hn : hi < st.length
      · obtain ⟨s, hs⟩ : ∃ s, st[hi]? = some s := ⟨_, List.getElem?_eq_getElem hn⟩
        rw [hs] at R2
        obtain ⟨g, off, cap, e, -, -, hc⟩ := (H.out.later HB.out).pos (by omega)
        obtain ⟨rfl, rfl⟩ : a = some ⟨g, off, none⟩ ∧ c = cap := by simpa using e
        obtain ⟨q1, q2⟩ := sCells_at st _ s hs
        have d0 := hc (hi * 2) (by omega)
        have d1 := hc (hi * 2 + 1) (by omega)
        rw [q1] at d0
        rw [q2] at d1
        rw [← Nat.add_assoc] at d1
        have C2 := hid (C.out s.f s.ev wr)
        have hm : (hi : Int) < (st.length : Int) := by omega
        by_cases hyx : s.f = x
        · have e0 : Hid (cmpI s.f x = 0) := by show _ = _; unfold cmpI; rw [if_neg (by omega), if_neg (by omega)]
          rw [e0.out] at C2
          have e1 : Hid ((s.f == x) = true) := by show _ = _; simp [hyx]
          clear hc e q1 q2 hyx
          go_wp2_with fail
          refine C2.out.mono ?_
          rintro e w' ⟨rfl, hb⟩
          go_wp2_with fail
          go_ret2
          exact ⟨by rw [R1.out, R2.out]; simp only [e1.out]; rfl, HB.out.trans (hb.mono HB.out.size)⟩
        · obtain ⟨z, hz, hz0⟩ : ∃ z : Int, cmpI s.f x = z ∧ (z == 0) = false := ⟨_, rfl, by
            unfold cmpI
            split
            · rfl
            · split
              · rfl
              · omega⟩
          rw [hz] at C2
          have e1 : Hid ((s.f == x) = false) := by show _ = _; simp [hyx]
          clear hc e q1 q2 hz hyx
          go_wp2_with fail
          refine C2.out.mono ?_
          rintro e w' ⟨rfl, hb⟩
          go_wp2_with fail
          go_ret2
          exact ⟨by rw [R1.out, R2.out]; simp only [e1.out]; rfl, HB.out.trans (hb.mono HB.out.size)⟩
      · have hm : ¬ (hi : Int) < (st.length : Int) := by omega
        have hnone : st[hi]? = none := List.getElem?_eq_none (by omega)
        rw [hnone] at R2
        go_wp2_with fail
        go_ret2
        exact ⟨by rw [R1.out, R2.out]; rfl, HB.out⟩
end
end Go.Proofs.YtnbgjbdbbmpoaaaDoor.Jo
