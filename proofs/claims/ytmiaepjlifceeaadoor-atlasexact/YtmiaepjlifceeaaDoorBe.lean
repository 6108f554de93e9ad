/- Ways, plainly: a component at a time, each once, never out of both and beyond. -/
import Derived.Test.YtmiaepjlifceeaaDoorBa
namespace Go.Proofs.YtmiaepjlifceeaaDoor
open Go.RowKit Go.Shelf Go.Maps
theorem lst_nodup (m : Nat) : ∀ k, (lst k m).Nodup
  | 0 => List.nodup_nil
  | k + 1 => by
    rw [lst]
    split
    · rw [List.nodup_append]
      refine ⟨lst_nodup m k, by simp, fun a ha b hb e => ?_⟩
      have := ((lst_mem m a k).1 ha).1
      simp at hb
      omega
    · exact lst_nodup m k
/-- How many components two sets differ in. -/
def cnt (x y : Nat) : Nat → Nat
  | 0 => 0
  | k + 1 => cnt x y k + if x.testBit k = y.testBit k then 0 else 1
theorem cnt_lst (x y : Nat) (hx : x < 4294967296) (hy : y < 4294967296) : ∀ k, (lst k (an x y)).length + (lst k (an y x)).length = cnt x y k
  | 0 => rfl
  | k + 1 => by
    have ih := cnt_lst x y hx hy k
    rw [cnt, lst, lst, an_bit x y k hx hy, an_bit y x k hy hx]
    cases x.testBit k <;> cases y.testBit k <;> simp <;> omega
theorem cnt_le (x y : Nat) : ∀ k, cnt x y k ≤ k
  | 0 => Nat.le_refl _
  | k + 1 => by
    have := cnt_le x y k
    rw [cnt]
    split <;> omega
theorem wo_xor {m c : Nat} (hm : m < 65536) (hc : c < 16) (h : m.testBit c = true) : m ^^^ wo m c = 2 ^ c := by
  refine Nat.eq_of_testBit_eq fun i => ?_
  rw [Nat.testBit_xor, wo_bit _ _ _ (by omega) (by omega), Nat.testBit_two_pow]
  by_cases e : c = i
  · subst e; simp [h]
  · simp [e]
theorem wi_xor {m c : Nat} (h : m.testBit c = false) : m ^^^ wi m c = 2 ^ c := by
  refine Nat.eq_of_testBit_eq fun i => ?_
  rw [Nat.testBit_xor, wi_bit, Nat.testBit_two_pow]
  by_cases e : c = i
  · subst e; simp [h]
  · simp [e]
/-- One step of a way. -/
structure Stp (x y : Nat) (l : List Nat) (a b p q c : Nat) : Prop where
  pa : l[a]? = some p
  qb : l[b]? = some q
  d : p ^^^ q = 2 ^ c
  c16 : c < 16
  df : x.testBit c ≠ y.testBit c
  sub : ∀ e, q.testBit e = true → x.testBit e = true ∨ y.testBit e = true
/-- A way that is right so far. -/
structure Gd (x y i : Nat) (l0 : List Nat) (t : Wy) : Prop where
  nd : t.l.Nodup
  old : ∀ {a m : Nat}, l0[a]? = some m → t.l[a]? = some m
  w0 : t.w[0]? = some i
  cur : ∃ k, t.w[t.w.length - 1]? = some k ∧ t.l[k]? = some t.m
  step : ∀ j, 1 ≤ j → j < t.w.length → ∃ a b p q c, t.w[j - 1]? = some a ∧ t.w[j]? = some b ∧ Stp x y t.l a b p q c
  m16 : t.m < 65536
  sub : ∀ e, t.m.testBit e = true → x.testBit e = true ∨ y.testBit e = true
theorem Gd.stp {x y i : Nat} {l0 : List Nat} {t : Wy} (h : Gd x y i l0 t) (f : Nat → Nat → Nat) {c : Nat} (hc : c < 16) (hd : x.testBit c ≠ y.testBit c) (hx : t.m ^^^ f t.m c = 2 ^ c) (h16 : f t.m c < 65536) (hs : ∀ e, (f t.m c).testBit e = true → x.testBit e = true ∨ y.testBit e = true) : Gd x y i l0 (t.stp f c) := by
  have old : ∀ {a m : Nat}, t.l[a]? = some m → (add t.l (f t.m c))[a]? = some m := fun {a m} ha => by
    rw [add_old _ (List.getElem?_eq_some_iff.1 ha).1]; exact ha
  have hw : 0 < t.w.length := (List.getElem?_eq_some_iff.1 h.w0).1
  have last : (t.w ++ [t.l.idxOf (f t.m c)])[t.w.length]? = some (t.l.idxOf (f t.m c)) := by simp
  refine ⟨add_nodup h.nd _, fun ha => old (h.old ha), ?_, ⟨t.l.idxOf (f t.m c), ?_, add_get _ _⟩, fun j h1 h2 => ?_, h16, hs⟩
  · show (t.w ++ [_])[0]? = _
    rw [List.getElem?_append_left hw]; exact h.w0
  · show (t.w ++ [t.l.idxOf (f t.m c)])[(t.w ++ [t.l.idxOf (f t.m c)]).length - 1]? = _
    rw [List.length_append, List.length_singleton, Nat.add_sub_cancel]
    exact last
  · have h2 : j < t.w.length + 1 := by
      have : (t.stp f c).w.length = t.w.length + 1 := by simp [Wy.stp]
      omega
    by_cases e : j < t.w.length
    · obtain ⟨a, b, p, q, c', h3, h4, h5⟩ := h.step j h1 e
      refine ⟨a, b, p, q, c', ?_, ?_, ⟨old h5.pa, old h5.qb, h5.d, h5.c16, h5.df, h5.sub⟩⟩
      · show (t.w ++ [_])[j - 1]? = _
        rw [List.getElem?_append_left (by omega)]; exact h3
      · show (t.w ++ [_])[j]? = _
        rw [List.getElem?_append_left e]; exact h4
    · obtain rfl : j = t.w.length := by omega
      obtain ⟨k, hk, hm⟩ := h.cur
      refine ⟨k, t.l.idxOf (f t.m c), t.m, f t.m c, c, ?_, last, ⟨old hm, add_get _ _, hx, hc, hd, hs⟩⟩
      show (t.w ++ [_])[t.w.length - 1]? = _
      rw [List.getElem?_append_left (by omega)]; exact hk
theorem Gd.less {x y i : Nat} {l0 : List Nat} : ∀ (ds : List Nat) {t : Wy}, Gd x y i l0 t → ds.Nodup → (∀ c ∈ ds, c < 16 ∧ x.testBit c ≠ y.testBit c ∧ t.m.testBit c = true) → Gd x y i l0 (t.run wo ds) ∧ ∀ e, (t.run wo ds).m.testBit e = (t.m.testBit e && !decide (e ∈ ds))
  | [], t, h, _, _ => ⟨h, fun e => by simp [Wy.run]⟩
  | c :: ds, t, h, hn, hc => by
    have h2 := List.nodup_cons.1 hn
    obtain ⟨c16, df, has⟩ := hc c List.mem_cons_self
    have hb : ∀ e, (wo t.m c).testBit e = (t.m.testBit e && !decide (c = e)) := fun e => wo_bit _ _ _ (by have := h.m16; omega) (by omega)
    have g1 := h.stp wo c16 df (wo_xor h.m16 c16 has) (Nat.lt_of_le_of_lt (an_le _ _) h.m16) (fun e he => h.sub e (by rw [hb e] at he; simp at he; exact he.1))
    have ih := Gd.less ds g1 h2.2 (fun d hd => by
      obtain ⟨d1, d2, d3⟩ := hc d (List.mem_cons_of_mem _ hd)
      refine ⟨d1, d2, ?_⟩
      show (wo t.m c).testBit d = true
      rw [hb d, d3]
      have : ¬ c = d := fun e => h2.1 (e ▸ hd)
      simp [this])
    refine ⟨ih.1, fun e => ?_⟩
    rw [show t.run wo (c :: ds) = (t.stp wo c).run wo ds from rfl, ih.2 e]
    show ((wo t.m c).testBit e && !decide (e ∈ ds)) = _
    rw [hb e]
    by_cases ec : c = e
    · subst ec; simp
    · have : ¬ e = c := fun q => ec q.symm
      simp [ec, this]
theorem Gd.more {x y i : Nat} {l0 : List Nat} : ∀ (es : List Nat) {t : Wy}, Gd x y i l0 t → es.Nodup → (∀ c ∈ es, c < 16 ∧ x.testBit c ≠ y.testBit c ∧ t.m.testBit c = false ∧ y.testBit c = true) → Gd x y i l0 (t.run wi es) ∧ ∀ e, (t.run wi es).m.testBit e = (t.m.testBit e || decide (e ∈ es))
  | [], t, h, _, _ => ⟨h, fun e => by simp [Wy.run]⟩
  | c :: es, t, h, hn, hc => by
    have h2 := List.nodup_cons.1 hn
    obtain ⟨c16, df, hasnt, hy⟩ := hc c List.mem_cons_self
    have hb : ∀ e, (wi t.m c).testBit e = (t.m.testBit e || decide (c = e)) := fun e => wi_bit _ _ _
    have g1 := h.stp wi c16 df (wi_xor hasnt) (wi_lt (n := 16) h.m16 c16) (fun e he => by
      rw [hb e] at he
      by_cases q : c = e
      · subst q; exact .inr hy
      · simp [q] at he; exact h.sub e he)
    have ih := Gd.more es g1 h2.2 (fun d hd => by
      obtain ⟨d1, d2, d3, d4⟩ := hc d (List.mem_cons_of_mem _ hd)
      refine ⟨d1, d2, ?_, d4⟩
      show (wi t.m c).testBit d = false
      rw [hb d, d3]
      have : ¬ c = d := fun e => h2.1 (e ▸ hd)
      simp [this])
    refine ⟨ih.1, fun e => ?_⟩
    rw [show t.run wi (c :: es) = (t.stp wi c).run wi es from rfl, ih.2 e]
    show ((wi t.m c).testBit e || decide (e ∈ es)) = _
    rw [hb e]
    by_cases ec : c = e
    · subst ec; simp
    · have : ¬ e = c := fun q => ec q.symm
      simp [ec, this]
/-- A whole way is right, and comes to its end. -/
theorem way_right {l : List Nat} {i j x y : Nat} (hn : l.Nodup) (hi : l[i]? = some x) (_hj : l[j]? = some y) (hx : x < 65536) (hy : y < 65536) : Gd x y i l (way l i x y) ∧ (way l i x y).m = y ∧ (way l i x y).w.length = cnt x y 16 + 1 := by
  have x32 : x < 4294967296 := by omega
  have y32 : y < 4294967296 := by omega
  have g0 : Gd x y i l ⟨x, l, [i]⟩ := ⟨hn, fun h => h, rfl, ⟨i, rfl, hi⟩, fun j h1 h2 => by simp at h2; omega, hx, fun e h => .inl h⟩
  have lx := lst_more (an x y) 16 (Nat.lt_of_le_of_lt (an_le x y) hx) 32 (by decide)
  have ly := lst_more (an y x) 16 (Nat.lt_of_le_of_lt (an_le y x) hy) 32 (by decide)
  have mx : ∀ c, c ∈ lst 32 (an x y) ↔ c < 16 ∧ x.testBit c = true ∧ y.testBit c = false := fun c => by
    rw [lx, lst_mem, an_bit x y c x32 y32]; simp
  have my : ∀ c, c ∈ lst 32 (an y x) ↔ c < 16 ∧ y.testBit c = true ∧ x.testBit c = false := fun c => by
    rw [ly, lst_mem, an_bit y x c y32 x32]; simp
  obtain ⟨g1, b1⟩ := g0.less (lst 32 (an x y)) (lst_nodup _ _) (fun c hc => by
    obtain ⟨h1, h2, h3⟩ := (mx c).1 hc
    exact ⟨h1, by rw [h2, h3]; decide, h2⟩)
  obtain ⟨g2, b2⟩ := g1.more (lst 32 (an y x)) (lst_nodup _ _) (fun c hc => by
    obtain ⟨h1, h2, h3⟩ := (my c).1 hc
    refine ⟨h1, by rw [h2, h3]; decide, ?_, h2⟩
    rw [b1 c]
    show (x.testBit c && _) = false
    rw [h3]; rfl)
  refine ⟨g2, ?_, ?_⟩
  · refine Nat.eq_of_testBit_eq fun e => ?_
    show (Wy.run wi (Wy.run wo ⟨x, l, [i]⟩ (lst 32 (an x y))) (lst 32 (an y x))).m.testBit e = _
    rw [b2 e, b1 e]
    show (x.testBit e && !decide (e ∈ lst 32 (an x y)) || decide (e ∈ lst 32 (an y x))) = _
    have dx : decide (e ∈ lst 32 (an x y)) = (decide (e < 16) && (x.testBit e && !y.testBit e)) := by
      rw [Bool.eq_iff_iff, decide_eq_true_iff, mx e]; simp
    have dy : decide (e ∈ lst 32 (an y x)) = (decide (e < 16) && (y.testBit e && !x.testBit e)) := by
      rw [Bool.eq_iff_iff, decide_eq_true_iff, my e]; simp
    rw [dx, dy]
    by_cases h16 : e < 16
    · rw [decide_eq_true h16]
      cases x.testBit e <;> cases y.testBit e <;> rfl
    · rw [bit_out (n := 16) hx (by omega), bit_out (n := 16) hy (by omega)]
      simp
  · unfold way
    rw [Wy.run_len, Wy.run_len, lx, ly, ← cnt_lst x y x32 y32 16]
    simp
    omega
theorem tmod_val (m k : Nat) : ((m : Int) / 2 ^ k).tmod 2 = if m.testBit k = true then 1 else 0 := by
  have e1 : (m : Int) / 2 ^ k = ((m / 2 ^ k : Nat) : Int) := by simp
  rw [e1, show (2 : Int) = ((2 : Nat) : Int) from rfl, ← Int.ofNat_tmod, Nat.testBit_eq_decide_div_mod_eq]
  simp
  split <;> omega
end Go.Proofs.YtmiaepjlifceeaaDoor
