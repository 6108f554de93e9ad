/- Both journals, plainly: marks and entries behind them. -/
import Derived.Test.YtnbgjbdbbmpoaaaDoorJoRg
namespace Go.Proofs.YtnbgjbdbbmpoaaaDoor.Jo
open Go.RowKit Go.Shelf Go.Maps
def flatP (p : List (Int × List Ue)) : List (Int × Ue) := p.flatMap fun s => s.2.map fun u => (s.1, u)
def tagE (e : En) : Int × Ue := (e.m, e.u.bare)
/-- The document's journal is this one. -/
structure Rel (p : List (Int × List Ue)) (ms : List Int) (es : List En) : Prop where
  marks : ms = p.map Prod.fst
  ents : es.map tagE = flatP p
theorem flatP_app (a b : List (Int × List Ue)) : flatP (a ++ b) = flatP a ++ flatP b := by simp [flatP]
theorem flatP_len (p : List (Int × List Ue)) : (flatP p).length = totP p := by simp [flatP, totP, List.length_flatMap]
theorem Rel.tot {p : List (Int × List Ue)} {ms : List Int} {es : List En} (h : Rel p ms es) : es.length = totP p := by
  have := congrArg List.length h.ents
  rw [List.length_map, flatP_len] at this
  exact this
theorem Rel.len {p : List (Int × List Ue)} {ms : List Int} {es : List En} (h : Rel p ms es) : ms.length = p.length := by rw [h.marks, List.length_map]
theorem rel_nil : Rel [] [] [] := ⟨rfl, rfl⟩
/-- Frames rise. -/
def Up (p : List (Int × List Ue)) : Prop := p.Pairwise fun s t => s.1 < t.1
theorem up_of {p : List (Int × List Ue)} (h : (p.map Prod.fst).Pairwise (· < ·)) : Up p := List.pairwise_map.1 h
theorem split_at : ∀ (p : List (Int × List Ue)) (x : Int), Up p → p.take (belowP p x) = p.filter (fun s => decide (s.1 < x)) ∧ p.drop (belowP p x) = p.filter (fun s => decide (x ≤ s.1))
  | [], x, _ => ⟨by simp, by simp⟩
  | s :: q, x, h => by
    obtain ⟨h1, h2⟩ := List.pairwise_cons.1 h
    obtain ⟨i1, i2⟩ := split_at q x h2
    by_cases hs : s.1 < x
    · have e : belowP (s :: q) x = belowP q x + 1 := by simp [belowP, hs]
      rw [e, List.take_succ_cons, List.drop_succ_cons, i1, i2]
      have hn : ¬ x ≤ s.1 := by omega
      simp [hs, hn]
    · have hq : ∀ t ∈ q, ¬ t.1 < x := fun t ht => by have := h1 t ht; omega
      have e0 : belowP q x = 0 := by
        unfold belowP
        rw [List.countP_eq_zero]
        intro t ht
        simpa using hq t ht
      have e : belowP (s :: q) x = 0 := by
        have : belowP (s :: q) x = belowP q x := by simp [belowP, hs]
        rw [this, e0]
      rw [e, List.take_zero, List.drop_zero]
      refine ⟨(List.filter_eq_nil_iff.2 fun t ht => ?_).symm, (List.filter_eq_self.2 fun t ht => ?_).symm⟩
      · rcases List.mem_cons.1 ht with rfl | ht
        · simpa using hs
        · simpa using hq t ht
      · rcases List.mem_cons.1 ht with rfl | ht
        · simp; omega
        · have := hq t ht; simp; omega
theorem flat_filter (P : Int → Bool) : ∀ p : List (Int × List Ue), (flatP p).filter (fun y => P y.1) = flatP (p.filter fun s => P s.1)
  | [] => rfl
  | s :: q => by
    have e : flatP (s :: q) = s.2.map (fun u => (s.1, u)) ++ flatP q := by simp [flatP]
    rw [e, List.filter_append, flat_filter P q]
    by_cases h : P s.1 = true
    · rw [List.filter_cons_of_pos (by simpa using h)]
      have e2 : flatP (s :: q.filter fun s => P s.1) = s.2.map (fun u => (s.1, u)) ++ flatP (q.filter fun s => P s.1) := by simp [flatP]
      rw [e2]
      congr 1
      exact List.filter_eq_self.2 fun y hy => by
        obtain ⟨u, -, rfl⟩ := List.mem_map.1 hy
        exact h
    · rw [List.filter_cons_of_neg (by simpa using h)]
      have : (s.2.map fun u => (s.1, u)).filter (fun y => P y.1) = [] := List.filter_eq_nil_iff.2 fun y hy => by
        obtain ⟨u, -, rfl⟩ := List.mem_map.1 hy
        exact h
      rw [this, List.nil_append]
theorem rel_filter {p : List (Int × List Ue)} {ms : List Int} {es : List En} (P : Int → Bool) (h : Rel p ms es) : Rel (p.filter fun s => P s.1) (ms.filter P) (es.filter fun e => P e.m) := by
  refine ⟨?_, ?_⟩
  · rw [h.marks, List.filter_map]
    rfl
  · rw [← flat_filter, ← h.ents, List.filter_map]
    rfl
theorem acc_flatP (p : List (Int × List Ue)) : accPl p = ((flatP p).map Prod.snd).reverse := by
  rw [acc_flat]
  congr 1
  induction p with
  | nil => rfl
  | cons s q ih =>
    have e : flatP (s :: q) = s.2.map (fun u => (s.1, u)) ++ flatP q := by simp [flatP]
    rw [e, List.map_append, List.map_cons, List.flatten_cons, ih]
    congr 1
    rw [List.map_map]
    exact (List.map_id _).symm
theorem rel_since {p : List (Int × List Ue)} {ms : List Int} {es : List En} (h : Rel p ms es) (hu : Up p) (x : Int) : (sinceL es x).map Ue.bare = accPl (p.drop (belowP p x)) := by
  rw [(split_at p x hu).2, acc_flatP, ← (rel_filter (fun m => decide (x ≤ m)) h).ents]
  unfold sinceL
  rw [List.map_map, List.map_map, ← List.map_reverse, ← List.filter_reverse]
  rfl
theorem rel_marked {p : List (Int × List Ue)} {ms : List Int} {es : List En} (h : Rel p ms es) (x : Int) : markB ms x = markedP p x := by
  rw [h.marks]
  unfold markB markedP
  rw [List.any_map]
  rfl
theorem rel_above {p : List (Int × List Ue)} {ms : List Int} {es : List En} (h : Rel p ms es) (x : Int) (h0 : 0 ≤ x) : aboveP p x = decide (lastM ms < x) := by
  rw [h.marks]
  unfold aboveP lastM
  rw [List.getLast?_map]
  cases p.getLast? with
  | none => simp; omega
  | some s => rfl
theorem rel_mark {p : List (Int × List Ue)} {ms : List Int} {es : List En} (h : Rel p ms es) (x : Int) : Rel (p ++ [(x, [])]) (ms ++ [x]) es :=
  ⟨by rw [h.marks, List.map_append]; rfl, by rw [h.ents, flatP_app]; simp [flatP]⟩
theorem rel_note {a : List (Int × List Ue)} {f : Int} {l : List Ue} {ms : List Int} {es : List En} (h : Rel (a ++ [(f, l)]) ms es) (u : Ue) : Rel (a ++ [(f, l ++ [u.bare])]) ms (es ++ [⟨f, u⟩]) := by
  refine ⟨by rw [h.marks]; simp, ?_⟩
  rw [List.map_append, h.ents, flatP_app, flatP_app]
  simp [flatP, tagE]
theorem rel_last {a : List (Int × List Ue)} {f : Int} {l : List Ue} {ms : List Int} {es : List En} (h : Rel (a ++ [(f, l)]) ms es) : lastM ms = f := by
  rw [h.marks]
  simp [lastM]
theorem oldB_bare (x u : Ue) : oldB x.bare u = oldB x u := rfl
theorem any_or2 {α : Type} (p q : α → Bool) : ∀ l : List α, (l.any p || l.any q) = l.any fun x => p x || q x
  | [] => rfl
  | x :: l => by
    have := any_or2 p q l
    simp only [List.any_cons]
    rw [← this]
    cases p x <;> cases q x <;> cases l.any p <;> cases l.any q <;> rfl
theorem old_knows (l : List Ue) (u : Ue) : (l.any fun x => oldB x u) = knowsB l u := by
  have T : ∀ (k id n : Int) (q : Ue → Bool), (∀ x, q x = (decide (x.k ≠ 3 ∧ x.k ≠ 5) && ((aboutM x).k == k && (aboutM x).id == id && (aboutM x).n == n))) → toldB l ⟨k, id, n⟩ = l.any q := by
    intro k id n q hq
    unfold toldB
    congr 1
    funext x
    exact (hq x).symm
  have K : ∀ x : Ue, (aboutM x).k = x.k := fun x => by unfold aboutM; split <;> (try split) <;> (try split) <;> rfl
  by_cases h1 : u.k = 1
  · have e1 : aboutM u = ⟨1, u.id, u.p.c⟩ := by unfold aboutM; rw [if_pos (.inl h1), h1]
    unfold knowsB
    rw [if_pos h1, e1]
    rw [T 1 u.id u.p.c (fun x => x.k == 1 && x.id == u.id && x.p.c == u.p.c) ?_, T 4 u.id u.p.c (fun x => x.k == 4 && x.id == u.id && x.p.c == u.p.c) ?_, T 2 u.id 0 (fun x => x.k == 2 && x.id == u.id) ?_]
    · rw [any_or2, any_or2]
      congr 1
      funext x
      unfold oldB
      rw [if_pos h1]
      cases (x.k == 1) <;> cases (x.k == 4) <;> cases (x.k == 2) <;> cases (x.id == u.id) <;> cases (x.p.c == u.p.c) <;> rfl
    · intro x
      by_cases hx : x.k = 2
      · simp [aboutM, hx]
      · have : (x.k == 2) = false := by simpa using hx
        rw [K, this]
        simp
    · intro x
      by_cases hx : x.k = 4
      · simp [aboutM, hx]
      · have : (x.k == 4) = false := by simpa using hx
        rw [K, this]
        simp
    · intro x
      by_cases hx : x.k = 1
      · simp [aboutM, hx]
      · have : (x.k == 1) = false := by simpa using hx
        rw [K, this]
        simp
  · by_cases h6 : u.k = 6
    · have e1 : aboutM u = ⟨6, 0, u.n⟩ := by unfold aboutM; rw [if_neg (by omega), if_neg (by omega), if_pos h6, h6]
      unfold knowsB
      rw [if_neg h1, if_pos (.inl h6), e1]
      rw [T 6 0 u.n (fun x => x.k == 6 && x.n == u.n) ?_]
      · congr 1
        funext x
        unfold oldB
        rw [if_neg h1, if_pos h6]
      · intro x
        by_cases hx : x.k = 6
        · simp [aboutM, hx]
        · have : (x.k == 6) = false := by simpa using hx
          rw [K, this]
          simp
    · by_cases h7 : u.k = 7 ∨ u.k = 8 ∨ u.k = 9
      · have e1 : aboutM u = ⟨u.k, 0, 0⟩ := by unfold aboutM; rw [if_neg (by omega), if_neg (by omega), if_neg h6]
        unfold knowsB
        rw [if_neg h1, if_pos (by omega), e1]
        rw [T u.k 0 0 (fun x => x.k == u.k) ?_]
        · congr 1
          funext x
          unfold oldB
          rw [if_neg h1, if_neg h6, if_pos h7]
        · intro x
          by_cases hx : x.k = u.k
          · have e2 : aboutM x = ⟨u.k, 0, 0⟩ := by unfold aboutM; rw [if_neg (by omega), if_neg (by omega), if_neg (by omega), hx]
            rw [e2]
            simp [hx]
            omega
          · have : (x.k == u.k) = false := by simpa using hx
            rw [K, this]
            simp
      · unfold knowsB
        rw [if_neg h1, if_neg (by omega)]
        rw [List.any_eq_false]
        intro x _
        unfold oldB
        rw [if_neg h1, if_neg h6, if_neg h7]
        decide
theorem any_tag (es : List En) (Q : Int → Ue → Bool) (hQ : ∀ m u, Q m u.bare = Q m u) : (es.any fun e => Q e.m e.u) = (es.map tagE).any fun y => Q y.1 y.2 := by
  rw [List.any_map]
  congr 1
  funext e
  exact (hQ _ _).symm
theorem rel_known {a : List (Int × List Ue)} {f : Int} {l : List Ue} {ms : List Int} {es : List En} (h : Rel (a ++ [(f, l)]) ms es) (hu : Up (a ++ [(f, l)])) (u : Ue) : knownR ms es u = knowsB l u := by
  unfold knownR
  rw [rel_last h, any_tag es (fun m x => m == f && oldB x u) (fun m x => by rw [oldB_bare]), h.ents, flatP_app, List.any_append, ← old_knows]
  have h1 : (flatP a).any (fun y => y.1 == f && oldB y.2 u) = false := by
    rw [List.any_eq_false]
    intro y hy
    simp only [flatP, List.mem_flatMap, List.mem_map] at hy
    obtain ⟨s, hs, v, -, rfl⟩ := hy
    have := (List.pairwise_append.1 hu).2.2 s hs (f, l) (by simp)
    have : s.1 ≠ f := by simp only at this; omega
    simp [this]
  rw [h1, Bool.false_or]
  have h2 : flatP [(f, l)] = l.map fun u => (f, u) := by simp [flatP]
  rw [h2, List.any_map]
  congr 1
  funext x
  simp
theorem rel_keep_low {p : List (Int × List Ue)} {ms : List Int} {es : List En} (h : Rel p ms es) (hu : Up p) (hr : ∀ s ∈ p, 0 ≤ s.1 ∧ s.1 ≤ 1073741824) (x : Int) : Rel (p.take (belowP p x)) (keepM 0 (x - 1) ms) (keepE 0 (x - 1) es) := by
  have e : p.take (belowP p x) = p.filter fun s => inB 0 (x - 1) s.1 := by
    rw [(split_at p x hu).1]
    refine List.filter_congr fun s hs => ?_
    have := hr s hs
    unfold inB
    by_cases q : s.1 < x
    · have : s.1 ≤ x - 1 := by omega
      simp [q, this]; omega
    · have : ¬ s.1 ≤ x - 1 := by omega
      simp [q, this]
  rw [e]
  exact rel_filter (inB 0 (x - 1)) h
theorem rel_keep_high {p : List (Int × List Ue)} {ms : List Int} {es : List En} (h : Rel p ms es) (hu : Up p) (hr : ∀ s ∈ p, 0 ≤ s.1 ∧ s.1 ≤ 1073741824) (x : Int) : Rel (p.drop (belowP p x)) (keepM x 1073741824 ms) (keepE x 1073741824 es) := by
  have e : p.drop (belowP p x) = p.filter fun s => inB x 1073741824 s.1 := by
    rw [(split_at p x hu).2]
    refine List.filter_congr fun s hs => ?_
    have := (hr s hs).2
    unfold inB
    simp [this]
  rw [e]
  exact rel_filter (inB x 1073741824) h
/-- How much Forget takes away. -/
theorem stays_low {p : List (Int × List Ue)} {ms : List Int} {es : List En} (h : Rel p ms es) (hu : Up p) (h0 : p ≠ []) (x : Int) : belowP p (if lastM ms < x then lastM ms else x) = staysP p x := by
  obtain ⟨a, s, rfl⟩ : ∃ a s, p = a ++ [s] := ⟨p.dropLast, p.getLast h0, (List.dropLast_concat_getLast h0).symm⟩
  obtain ⟨f, l⟩ := s
  rw [rel_last h]
  unfold staysP
  have hl : ∀ s ∈ a, s.1 < f := fun s hs => (List.pairwise_append.1 hu).2.2 s hs (f, l) (by simp)
  have ef : belowP (a ++ [(f, l)]) f = a.length := by
    rw [belowP_snoc, if_neg (by simp), Nat.add_zero]
    unfold belowP
    rw [List.countP_eq_length]
    intro s hs
    simpa using hl s hs
  have elen : (a ++ [(f, l)]).length - 1 = a.length := by simp
  rw [elen]
  by_cases c : f < x
  · rw [if_pos c, ef]
    have : a.length ≤ belowP (a ++ [(f, l)]) x := by
      rw [← ef]
      unfold belowP
      exact List.countP_mono_left fun s _ q => by simp at q ⊢; omega
    omega
  · rw [if_neg c]
    have : belowP (a ++ [(f, l)]) x ≤ a.length := by
      rw [belowP_snoc, if_neg c, Nat.add_zero]
      exact List.countP_le_length
    omega
end Go.Proofs.YtnbgjbdbbmpoaaaDoor.Jo
