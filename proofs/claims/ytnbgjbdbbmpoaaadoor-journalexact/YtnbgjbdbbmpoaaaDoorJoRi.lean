/- JournalExact: both journals side by side. -/
import Derived.Test.YtnbgjbdbbmpoaaaDoorJoRh
import Derived.Test.YtnbgjbdbbmpoaaaDoorJoZq
namespace Go.Proofs.YtnbgjbdbbmpoaaaDoor.Jo
open Go.RowKit Go.Shelf Go.Maps
theorem numOf_k : ∀ k, k < 18 → numOf [k + 1] = (k : Int) + 1 := by decide
/-- An error of a call, by its number. -/
def FE (Ad : Nat → Addr) (w : World) (ev : Value) (k : Nat) : Prop := (ev = .nilIface ∧ k = 0) ∨ ∃ t q d, ev = .iface t q ∧ d ≤ 5 ∧ Err Ad w ev k d
theorem FE.later {Ad : Nat → Addr} {w w' : World} {ev : Value} {k : Nat} (h : FE Ad w ev k) (hb : Below w.heap.size w w') : FE Ad w' ev k := by
  rcases h with h | ⟨t, q, d, h1, h2, h3⟩
  · exact .inl h
  · exact .inr ⟨t, q, d, h1, h2, h3.later hb⟩
theorem num_fe {Ad : Nat → Addr} {w : World} {ev : Value} {k : Nat} (hE : Env w Ad) (h : FE Ad w ev k) : Calls Tryd.prog 23 #[ev] w fun e w' => e = .returned (.int .i64 (k : Int)) ∧ Below w.heap.size w w' := by
  rcases h with ⟨rfl, rfl⟩ | ⟨t, q, d, rfl, hd, h⟩
  · exact (number_nil w).mono fun _ _ ⟨q1, q2⟩ => ⟨q1, by rw [q2]; exact Below.refl _ _⟩
  · obtain ⟨ws, h⟩ := h.chn
    have := number_some Ad _ [(ws, k)] d w hE h.tr (by omega) ⟨t, q, rfl⟩
    have hk := h.2
    simp only at hk
    obtain ⟨j, rfl⟩ : ∃ j, k = j + 1 := ⟨k - 1, by omega⟩
    rw [show ([(ws, j + 1)].map Prod.snd) = [j + 1] from rfl, numOf_k j (by omega)] at this
    exact this
theorem Wj.order {W1 w : World} {jb most : Nat} {p : List (Int × List Ue)} (h : Wj W1 jb most p w) : Up p ∧ ∀ s ∈ p, 0 ≤ s.1 ∧ s.1 ≤ 1073741824 := by
  obtain ⟨⟨sv, mv, st, hJ, rfl⟩, -⟩ := h
  have e : (pl st).map Prod.fst = st.map Sx.f := by simp [pl]
  refine ⟨up_of (by rw [e]; exact hJ.up), fun s hs => ?_⟩
  unfold pl at hs
  obtain ⟨x, hx, rfl⟩ := List.mem_map.1 hs
  exact hJ.rng x hx
/-- Both journals. -/
structure Ex (W W1 : World) (jb ub most : Nat) (p : List (Int × List Ue)) (ms : List Int) (es : List En) (w : World) : Prop where
  j : Wj W1 jb most p w
  r : Rw W1.heap.size ub most ms es w
  bel : Below W.heap.size W w
/-- Calls that came in stay. -/
def Kp (w w1 : World) : Prop := ∀ (k : Nat) (cs : Array Value), w.heap[k]? = some (.cells cs 40 (0, 0)) → w1.heap[k]? = some (.cells cs 40 (0, 0))
theorem kp_below {w w1 : World} (hb : Below w.heap.size w w1) : Kp w w1 := fun _ _ h => blk_seen hb (Nat.le_refl _) h
theorem Kp.trans {a b c : World} (h : Kp a b) (k : Kp b c) : Kp a c := fun i cs q => k i cs (h i cs q)
/-- A row of entries that was answered. -/
def Ua (w : World) (v : Value) (l : List Ue) : Prop := ∃ B, Us B w v l
section
variable {W W1 w w1 : World} {jb ub most : Nat} {p p' : List (Int × List Ue)} {ms ms' : List Int} {es es' : List En} {Ad : Nat → Addr}
theorem Ex.later (h : Ex W W1 jb ub most p ms es w) (hb : Below w.heap.size w w1) : Ex W W1 jb ub most p ms es w1 := ⟨h.j.later hb, h.r.later hb, h.bel.trans (hb.mono h.bel.size)⟩
theorem Ex.pj (h : Ex W W1 jb ub most p ms es w) (hW : Below W.heap.size W W1) (hlo : W1.heap.size ≤ jb) (hj : Wj W1 jb most p' w1) (hs : St (fun k => ¬ Apu w k) w w1) : Ex W W1 jb ub most p' ms es w1 ∧ Kp w w1 := by
  refine ⟨⟨hj, ?_, hj.from hW (Nat.le_trans hW.size hlo)⟩, fun k cs q => hs.at q fun n => n ⟨cs, _, q, by decide, by decide, by decide⟩⟩
  obtain ⟨mv, lv, r⟩ := h.r
  exact ⟨mv, lv, r.kept hs (fun n => n ⟨_, _, r.box, by decide, by decide, by decide⟩) (fun k hk n => n (by obtain ⟨-, c, t⟩ := r.marks.typ hk; exact ⟨c, _, t, by decide, by decide, by decide⟩)) (fun k hk n => n (by obtain ⟨-, c, t⟩ := own_typ r.ents.1 hk; exact ⟨c, _, t, by decide, by decide, by decide⟩))⟩
theorem Ex.rj (h : Ex W W1 jb ub most p ms es w) (hW : Below W.heap.size W W1) (hlo : W1.heap.size ≤ jb) (hr : Rw W1.heap.size ub most ms' es' w1) (hs : St (fun k => k = ub) w w1) : Ex W W1 jb ub most p ms' es' w1 ∧ Kp w w1 ∧ (∀ ev k, FE Ad w ev k → FE Ad w1 ev k) ∧ ∀ v l, Ua w v l → Ua w1 v l := by
  obtain ⟨mv, lv, r⟩ := h.r
  have hj : Wj W1 jb most p w1 := h.j.kept hs fun k q => by
    subst q
    exact ⟨r.low, _, _, r.box, by decide, by decide, by decide, by decide⟩
  refine ⟨⟨hj, hr, hj.from hW (Nat.le_trans hW.size hlo)⟩, fun k cs q => hs.at q fun n => ?_, fun ev k hf => ?_, fun v l ⟨B, hu⟩ => ⟨B, hu.kept hs (fun k hk q => ?_) (fun u hu' k hk q => ?_)⟩⟩
  · subst n
    rw [r.box] at q
    simp at q
  · rcases hf with hf | ⟨t, q, d, h1, h2, h3⟩
    · exact .inl hf
    · refine .inr ⟨t, q, d, h1, h2, h3.kept hs fun b cs hb e => ?_⟩
      subst e
      rw [r.box] at hb
      simp at hb
  · obtain ⟨-, c, t⟩ := hu.typ hk
    subst q
    rw [r.box] at t
    simp at t
  · obtain ⟨c, t⟩ := Prts.at (hu.2 u hu') hk
    subst q
    rw [r.box] at t
    simp at t
theorem Ua.later {v : Value} {l : List Ue} (h : Ua w v l) (hb : Below w.heap.size w w1) : Ua w1 v l := by
  obtain ⟨B, h⟩ := h
  exact ⟨B, h.later hb⟩
/-- What stands fast: the worlds, the sizes, how both are the same. -/
structure Fx (W W1 : World) (jb most : Nat) (p : List (Int × List Ue)) (ms : List Int) (es : List En) (q : Nat) : Prop where
  base : Below W.heap.size W W1
  lo : W1.heap.size ≤ jb
  rel : Rel p ms es
  inp : ∀ e ∈ es, UIn W e.u ∧ e.u.ps.length ≤ 1000
  few : p.length ≤ q
  q150 : q ≤ 150
theorem Fx.mfew {q : Nat} (h : Fx W W1 jb most p ms es q) : ms.length ≤ 10000 := by have := h.few; have := h.q150; rw [h.rel.len]; omega
theorem two_le {n : Nat} (h : n ≤ 150) : n ≤ 1000000 := by omega
theorem both_mark {q : Nat} (h : Ex W W1 jb ub most p ms es w) (hx : Fx W W1 jb most p ms es q) (hq : q < 150) (hE : Env8 W Ad) (x : Int) :
    ∃ k p' ms', Fx W W1 jb most p' ms' es (q + 1) ∧
      Calls Tryd.prog 12 #[.pointer (some ⟨jb, 0, none⟩), .int .i64 x] w (fun e w1 => ∃ ev, e = .returned ev ∧ FE Ad w1 ev k ∧ Ex W W1 jb ub most p' ms es w1 ∧ Kp w w1) ∧
      ∀ w1, Ex W W1 jb ub most p' ms es w1 → Calls Tryd.prog 13 #[.pointer (some ⟨ub, 0, none⟩), .int .i64 x] w1 fun e w2 => e = .returned (.int .i64 (k : Int)) ∧ Ex W W1 jb ub most p' ms' es w2 ∧ Kp w1 w2 ∧ ∀ ev k, FE Ad w1 ev k → FE Ad w2 ev k := by
  have hm := hx.mfew
  by_cases hok : 0 ≤ x ∧ x ≤ 1073741824 ∧ aboveP p x = true
  · obtain ⟨h0, h1, h2⟩ := hok
    have h3 := h2
    rw [rel_above hx.rel x h0] at h3
    refine ⟨0, p ++ [(x, [])], ms ++ [x], ⟨hx.base, hx.lo, rel_mark hx.rel x, hx.inp, by have := hx.few; simp; omega, by omega⟩, ?_, fun w1 hw => ?_⟩
    · refine (wj_mark h.j x h0 h1 h2).mono ?_
      rintro e w1 ⟨rfl, a1, a2⟩
      obtain ⟨b1, b2⟩ := h.pj hx.base hx.lo a1 (st_apu a2)
      exact ⟨_, rfl, .inl ⟨rfl, rfl⟩, b1, b2⟩
    · obtain ⟨mv, lv, r⟩ := hw.r
      refine (rmark_ok r (by have := hw.j.2.size; omega) (by omega) x h0 h1 (by simpa using h3)).mono ?_
      rintro e w2 ⟨rfl, a1, a2⟩
      obtain ⟨b1, b2, b3, -⟩ := hw.rj (Ad := Ad) hx.base hx.lo a1 a2
      exact ⟨rfl, b1, b2, b3⟩
  · have hbad : x < 0 ∨ 1073741824 < x ∨ aboveP p x = false := by
      by_cases a : x < 0
      · exact .inl a
      · by_cases b : 1073741824 < x
        · exact .inr (.inl b)
        · refine .inr (.inr ?_)
          cases hq : aboveP p x
          · rfl
          · exact absurd ⟨by omega, by omega, hq⟩ hok
    refine ⟨1, p, ms, ⟨hx.base, hx.lo, hx.rel, hx.inp, by have := hx.few; omega, by omega⟩, ?_, fun w1 hw => ?_⟩
    · refine (wj_mark_bad h.j (hE.later h.bel) x hbad).mono ?_
      rintro e w1 ⟨t, v, rfl, a1, a2⟩
      exact ⟨_, rfl, .inr ⟨t, v, 1, rfl, by omega, a1⟩, h.later a2, kp_below a2⟩
    · obtain ⟨mv, lv, r⟩ := hw.r
      refine (rmark_bad r (by omega) x ?_).mono ?_
      · by_cases a : x < 0
        · exact .inl a
        · rcases hbad with a' | b | c
          · exact .inl a'
          · exact .inr (.inl b)
          · rw [rel_above hx.rel x (by omega)] at c
            simp at c
            exact .inr (.inr c)
      · rintro e w2 ⟨rfl, a1⟩
        exact ⟨rfl, hw.later a1, kp_below a1, fun ev k hf => hf.later a1⟩
theorem snoc_of {α : Type} (l : List α) (h : l ≠ []) : ∃ a s, l = a ++ [s] := ⟨l.dropLast, l.getLast h, (List.dropLast_concat_getLast h).symm⟩
theorem both_note {q : Nat} (h : Ex W W1 jb ub most p ms es w) (hx : Fx W W1 jb most p ms es q) (hes : es.length ≤ q) (hq : q < 150) (hE : Env8 W Ad) (u : Ue) (hu : UIn W u) (hps : u.ps.length ≤ 1000) :
    ∃ k p' es', Fx W W1 jb most p' ms es' (q + 1) ∧ es'.length ≤ q + 1 ∧
      Calls Tryd.prog 14 #[.pointer (some ⟨jb, 0, none⟩), .agg #[.int .i64 u.k, .int .i64 u.id, .int .i64 u.p.c, .int .i64 u.p.v0, .int .i64 u.p.v1, .int .i64 u.p.v2, .int .i64 u.p.v3, .int .i64 u.p.t, u.pv, .int .i64 u.n, .int .i64 u.o]] w (fun e w1 => ∃ ev, e = .returned ev ∧ FE Ad w1 ev k ∧ Ex W W1 jb ub most p' ms es w1 ∧ Kp w w1) ∧
      ∀ w1, Ex W W1 jb ub most p' ms es w1 → Calls Tryd.prog 15 #[.pointer (some ⟨ub, 0, none⟩), .agg #[.int .i64 u.k, .int .i64 u.id, .int .i64 u.p.c, .int .i64 u.p.v0, .int .i64 u.p.v1, .int .i64 u.p.v2, .int .i64 u.p.v3, .int .i64 u.p.t, u.pv, .int .i64 u.n, .int .i64 u.o]] w1 fun e w2 => e = .returned (.int .i64 (k : Int)) ∧ Ex W W1 jb ub most p' ms es' w2 ∧ Kp w1 w2 ∧ ∀ ev k, FE Ad w1 ev k → FE Ad w2 ev k := by
  have hm := hx.mfew
  have hsl : Sl u := hu.2.form
  have hF0 : Fx W W1 jb most p ms es (q + 1) := ⟨hx.base, hx.lo, hx.rel, hx.inp, by have := hx.few; omega, by omega⟩
  by_cases hk : u.k < 1 ∨ 9 < u.k
  · refine ⟨1, p, es, hF0, by omega, ?_, fun w1 hw => ?_⟩
    · refine (note_kind (hE.later h.bel) jb u hk hsl).mono ?_
      rintro e w1 ⟨t, v, rfl, a1, a2⟩
      exact ⟨_, rfl, .inr ⟨t, v, 2, rfl, by omega, a1⟩, h.later a2, kp_below a2⟩
    · refine (rnote_kind ub u hsl hk w1).mono ?_
      rintro e w2 ⟨rfl, a1⟩
      exact ⟨rfl, hw.later a1, kp_below a1, fun ev k hf => hf.later a1⟩
  have h0 : 1 ≤ u.k := by omega
  have h9 : u.k ≤ 9 := by omega
  by_cases hp : p = []
  · subst hp
    obtain rfl : ms = [] := by simpa using hx.rel.marks
    refine ⟨8, [], es, hF0, by omega, ?_, fun w1 hw => ?_⟩
    · refine (wj_state h.j (hE.later h.bel) u h0 h9 hsl).mono ?_
      rintro e w1 ⟨t, v, rfl, a1, a2⟩
      exact ⟨_, rfl, .inr ⟨t, v, 1, rfl, by omega, a1⟩, h.later a2, kp_below a2⟩
    · obtain ⟨mv, lv, r⟩ := hw.r
      refine (rnote_state r u hsl h0 h9).mono ?_
      rintro e w2 ⟨rfl, a1⟩
      exact ⟨rfl, hw.later a1, kp_below a1, fun ev k hf => hf.later a1⟩
  obtain ⟨a, ⟨f, l⟩, rfl⟩ := snoc_of p hp
  obtain ⟨hup, hrng⟩ := h.j.order
  have hkn := rel_known hx.rel hup u
  have hla := rel_last hx.rel
  have hf0 : 0 ≤ lastM ms := by rw [hla]; exact (hrng (f, l) (by simp)).1
  have htot := hx.rel.tot
  obtain ⟨hfew, hmost⟩ := h.j.few
  have RN : ∀ w1, Rw W1.heap.size ub most ms es w1 → W1.heap.size ≤ w1.heap.size → Calls Tryd.prog 15 #[.pointer (some ⟨ub, 0, none⟩), .agg #[.int .i64 u.k, .int .i64 u.id, .int .i64 u.p.c, .int .i64 u.p.v0, .int .i64 u.p.v1, .int .i64 u.p.v2, .int .i64 u.p.v3, .int .i64 u.p.t, u.pv, .int .i64 u.n, .int .i64 u.o]] w1 fun e W' => e = .returned (.int .i64 (noteR most ms es u).1) ∧ Rw W1.heap.size ub most ms (noteR most ms es u).2 W' ∧ St (fun k => k = ub) w1 W' := by
    rintro w1 ⟨mv, lv, r⟩ hz
    exact rnote_any r hz hm (by omega) hmost u hsl h0 h9 hf0
  by_cases hkb : knowsB l u = true
  · have hR : noteR most ms es u = (0, es) := by unfold noteR; rw [hkn, if_pos hkb]
    refine ⟨0, _, es, hF0, by omega, ?_, fun w1 hw => ?_⟩
    · refine (wj_old h.j u hu.1 h0 h9 hsl hkb).mono ?_
      rintro e w1 ⟨rfl, a2⟩
      exact ⟨_, rfl, .inl ⟨rfl, rfl⟩, h.later a2, kp_below a2⟩
    · refine (RN w1 hw.r hw.j.2.size).mono ?_
      rintro e w2 ⟨rfl, a1, a2⟩
      rw [hR] at a1 ⊢
      obtain ⟨b1, b2, b3, -⟩ := hw.rj (Ad := Ad) hx.base hx.lo a1 a2
      exact ⟨rfl, b1, b2, b3⟩
  have hkf : knowsB l u = false := by simpa using hkb
  by_cases hfull : totP (a ++ [(f, l)]) = most
  · have hR : noteR most ms es u = (6, es) := by unfold noteR; rw [hkn, if_neg hkb, if_pos (by omega)]
    refine ⟨6, _, es, hF0, by omega, ?_, fun w1 hw => ?_⟩
    · refine (wj_full h.j (hE.later h.bel) u hu.1 h0 h9 hsl hkf hfull).mono ?_
      rintro e w1 ⟨t, v, rfl, a1, a2⟩
      exact ⟨_, rfl, .inr ⟨t, v, 1, rfl, by omega, a1⟩, h.later a2, kp_below a2⟩
    · refine (RN w1 hw.r hw.j.2.size).mono ?_
      rintro e w2 ⟨rfl, a1, a2⟩
      rw [hR] at a1 ⊢
      obtain ⟨b1, b2, b3, -⟩ := hw.rj (Ad := Ad) hx.base hx.lo a1 a2
      exact ⟨rfl, b1, b2, b3⟩
  · have hR : noteR most ms es u = (0, es ++ [⟨f, u⟩]) := by unfold noteR; rw [hkn, if_neg hkb, if_neg (by omega), hla]
    refine ⟨0, a ++ [(f, l ++ [u.bare])], es ++ [⟨f, u⟩], ⟨hx.base, hx.lo, rel_note hx.rel u, fun e he => ?_, by have := hx.few; simp at this ⊢; omega, by omega⟩, by simp; omega, ?_, fun w1 hw => ?_⟩
    · rcases List.mem_append.1 he with he | he
      · exact hx.inp e he
      · obtain rfl := List.mem_singleton.1 he
        exact ⟨hu, hps⟩
    · refine (wj_note h.j u hu.1 h0 h9 (hu.2.later h.bel) hps hkf (by omega)).mono ?_
      rintro e w1 ⟨rfl, a1, a2⟩
      obtain ⟨b1, b2⟩ := h.pj hx.base hx.lo a1 a2
      exact ⟨_, rfl, .inl ⟨rfl, rfl⟩, b1, b2⟩
    · refine (RN w1 hw.r hw.j.2.size).mono ?_
      rintro e w2 ⟨rfl, a1, a2⟩
      rw [hR] at a1 ⊢
      obtain ⟨b1, b2, b3, -⟩ := hw.rj (Ad := Ad) hx.base hx.lo a1 a2
      exact ⟨rfl, b1, b2, b3⟩
theorem ua_nil (w : World) : Ua w (.slice none 0 0) [] := ⟨0, us_nil 0 w⟩
theorem uo_nil (w : World) : Uo 0 w (.slice none 0 0) [] := ⟨World.ownsRow_nil _ _ _ _, fun _ h => by simp at h⟩
theorem both_since {q : Nat} (h : Ex W W1 jb ub most p ms es w) (hx : Fx W W1 jb most p ms es q) (hes : es.length ≤ q) (hE : Env8 W Ad) (x : Int) :
    ∃ (k : Nat) (bl : List Ue), (∀ u ∈ bl, ∃ e ∈ es, e.u = u) ∧ bl.length ≤ 150 ∧
      Calls Tryd.prog 16 #[.pointer (some ⟨jb, 0, none⟩), .int .i64 x] w (fun e w1 => ∃ lv ev, e = .returned (.tuple #[lv, ev]) ∧ FE Ad w1 ev k ∧ (∃ l, Ua w1 lv l ∧ l.map Ue.bare = bl.map Ue.bare) ∧ Ex W W1 jb ub most p ms es w1 ∧ Kp w w1) ∧
      ∀ w1, Ex W W1 jb ub most p ms es w1 → Calls Tryd.prog 17 #[.pointer (some ⟨ub, 0, none⟩), .int .i64 x] w1 fun e w2 => ∃ bv, e = .returned (.tuple #[bv, .int .i64 (k : Int)]) ∧ (∃ B, Uo B w2 bv bl) ∧ Ex W W1 jb ub most p ms es w2 ∧ Kp w1 w2 ∧ (∀ ev k, FE Ad w1 ev k → FE Ad w2 ev k) ∧ ∀ v l, Ua w1 v l → Ua w2 v l := by
  have hm := hx.mfew
  obtain ⟨hup, hrng⟩ := h.j.order
  have hmk := rel_marked hx.rel x
  have hq := hx.q150
  cases hb : markedP p x with
  | false =>
    rw [hb] at hmk
    refine ⟨16, [], fun u hu => by simp at hu, by simp, ?_, fun w1 hw => ?_⟩
    · refine (wj_since_bad h.j (hE.later h.bel) x hb).mono ?_
      rintro e w1 ⟨t, v, rfl, a1, a2⟩
      exact ⟨_, _, rfl, .inr ⟨t, v, 1, rfl, by omega, a1⟩, ⟨[], ua_nil _, rfl⟩, h.later a2, kp_below a2⟩
    · obtain ⟨mv, lv, r⟩ := hw.r
      refine (rsince_any r hm (by omega) x).mono ?_
      rintro e w2 ⟨a1, a2, -⟩
      exact ⟨_, a2 hmk, ⟨0, uo_nil _⟩, hw.later a1, kp_below a1, fun ev k hf => hf.later a1, fun v l hu => hu.later a1⟩
  | true =>
    rw [hb] at hmk
    refine ⟨0, sinceL es x, fun u hu => sinceL_mem hu, by have := sinceL_len es x; omega, ?_, fun w1 hw => ?_⟩
    · refine (wj_since h.j (by have := hx.few; omega) x hb).mono ?_
      rintro e w1 ⟨lv, l, rfl, a1, a2, a3⟩
      exact ⟨_, _, rfl, .inl ⟨rfl, rfl⟩, ⟨l, ⟨_, a1⟩, by rw [a2, rel_since hx.rel hup]⟩, h.later a3, kp_below a3⟩
    · obtain ⟨mv, lv, r⟩ := hw.r
      refine (rsince_any r hm (by omega) x).mono ?_
      rintro e w2 ⟨a1, -, a2⟩
      obtain ⟨v, rfl, a3⟩ := a2 hmk
      exact ⟨_, rfl, ⟨_, a3⟩, hw.later a1, kp_below a1, fun ev k hf => hf.later a1, fun v l hu => hu.later a1⟩
theorem keepE_mem {low high : Int} {es : List En} {e : En} (h : e ∈ keepE low high es) : e ∈ es := (List.mem_filter.1 h).1
theorem keepE_le (low high : Int) (es : List En) : (keepE low high es).length ≤ es.length := List.length_filter_le _ _
theorem both_back {q : Nat} (h : Ex W W1 jb ub most p ms es w) (hx : Fx W W1 jb most p ms es q) (hes : es.length ≤ q) (hq : q < 150) (hE : Env8 W Ad) (x : Int) :
    ∃ (k : Nat) (bl : List Ue) (p' : List (Int × List Ue)) (ms' : List Int) (es' : List En), (∀ u ∈ bl, ∃ e ∈ es, e.u = u) ∧ bl.length ≤ 150 ∧ Fx W W1 jb most p' ms' es' (q + 1) ∧ es'.length ≤ q + 1 ∧
      Calls Tryd.prog 18 #[.pointer (some ⟨jb, 0, none⟩), .int .i64 x] w (fun e w1 => ∃ lv ev, e = .returned (.tuple #[lv, ev]) ∧ FE Ad w1 ev k ∧ (∃ l, Ua w1 lv l ∧ l.map Ue.bare = bl.map Ue.bare) ∧ Ex W W1 jb ub most p' ms es w1 ∧ Kp w w1) ∧
      ∀ w1, Ex W W1 jb ub most p' ms es w1 → Calls Tryd.prog 19 #[.pointer (some ⟨ub, 0, none⟩), .int .i64 x] w1 fun e w2 => ∃ bv, e = .returned (.tuple #[bv, .int .i64 (k : Int)]) ∧ (∃ B, Uo B w2 bv bl) ∧ Ex W W1 jb ub most p' ms' es' w2 ∧ Kp w1 w2 ∧ (∀ ev k, FE Ad w1 ev k → FE Ad w2 ev k) ∧ ∀ v l, Ua w1 v l → Ua w2 v l := by
  have hm := hx.mfew
  obtain ⟨hup, hrng⟩ := h.j.order
  have hmk := rel_marked hx.rel x
  cases hb : markedP p x with
  | false =>
    rw [hb] at hmk
    refine ⟨16, [], p, ms, es, fun u hu => by simp at hu, by simp, ⟨hx.base, hx.lo, hx.rel, hx.inp, by have := hx.few; omega, by omega⟩, by omega, ?_, fun w1 hw => ?_⟩
    · refine (wj_back_bad h.j (hE.later h.bel) x hb).mono ?_
      rintro e w1 ⟨t, v, rfl, a1, a2⟩
      exact ⟨_, _, rfl, .inr ⟨t, v, 1, rfl, by omega, a1⟩, ⟨[], ua_nil _, rfl⟩, h.later a2, kp_below a2⟩
    · obtain ⟨mv, lv, r⟩ := hw.r
      refine (rback_bad r hm (by omega) x hmk).mono ?_
      rintro e w2 ⟨rfl, a1⟩
      exact ⟨_, rfl, ⟨0, uo_nil _⟩, hw.later a1, kp_below a1, fun ev k hf => hf.later a1, fun v l hu => hu.later a1⟩
  | true =>
    rw [hb] at hmk
    have hx0 : 0 ≤ x ∧ x ≤ 1073741824 := by
      unfold markedP at hb
      rw [List.any_eq_true] at hb
      obtain ⟨s, hs, e⟩ := hb
      obtain rfl : s.1 = x := by simpa using e
      exact hrng s hs
    refine ⟨0, sinceL es x, p.take (belowP p x) ++ [(x, [])], keepM 0 (x - 1) ms ++ [x], keepE 0 (x - 1) es, fun u hu => sinceL_mem hu, by have := sinceL_len es x; omega, ⟨hx.base, hx.lo, rel_mark (rel_keep_low hx.rel hup hrng x) x, fun e he => hx.inp e (keepE_mem he), by have := hx.few; simp; omega, by omega⟩, by have := keepE_le 0 (x - 1) es; omega, ?_, fun w1 hw => ?_⟩
    · refine (wj_back h.j (by have := hx.few; omega) x hb).mono ?_
      rintro e w1 ⟨lv, l, rfl, a1, a2, a3, a4⟩
      obtain ⟨b1, b2⟩ := h.pj hx.base hx.lo a3 (st_apu a4)
      exact ⟨_, _, rfl, .inl ⟨rfl, rfl⟩, ⟨l, ⟨_, a1⟩, by rw [a2, rel_since hx.rel hup]⟩, b1, b2⟩
    · obtain ⟨mv, lv, r⟩ := hw.r
      refine (rback_ok r hw.j.2.size hm (by omega) x hx0.1 hx0.2 hmk).mono ?_
      rintro e w2 ⟨⟨v, rfl, a3⟩, a1, a2⟩
      obtain ⟨b1, b2, b3, b4⟩ := hw.rj (Ad := Ad) hx.base hx.lo a1 a2
      exact ⟨_, rfl, ⟨_, a3⟩, b1, b2, b3, b4⟩
theorem totP_two (a b : List (Int × List Ue)) : totP (a ++ b) = totP a + totP b := by simp [totP]
theorem both_forget {q : Nat} (h : Ex W W1 jb ub most p ms es w) (hx : Fx W W1 jb most p ms es q) (hes : es.length ≤ q) (hq : q < 150) (x : Int) :
    ∃ (n : Int) (p' : List (Int × List Ue)) (ms' : List Int) (es' : List En), Fx W W1 jb most p' ms' es' (q + 1) ∧ es'.length ≤ q + 1 ∧
      (∀ w0, Ex W W1 jb ub most p ms es w0 → Calls Tryd.prog 20 #[.pointer (some ⟨jb, 0, none⟩), .int .i64 x] w0 fun e w1 => e = .returned (.int .i64 n) ∧ Ex W W1 jb ub most p' ms es w1 ∧ Kp w0 w1) ∧
      ∀ w1, Ex W W1 jb ub most p' ms es w1 → Calls Tryd.prog 21 #[.pointer (some ⟨ub, 0, none⟩), .int .i64 x] w1 fun e w2 => e = .returned (.int .i64 n) ∧ Ex W W1 jb ub most p' ms' es' w2 ∧ Kp w1 w2 := by
  have hm := hx.mfew
  obtain ⟨hup, hrng⟩ := h.j.order
  by_cases hp : p = []
  · subst hp
    obtain rfl : ms = [] := by simpa using hx.rel.marks
    obtain rfl : es = [] := by
      have := hx.rel.tot
      exact List.length_eq_zero_iff.1 this
    refine ⟨0, [], [], [], ⟨hx.base, hx.lo, hx.rel, hx.inp, by simp, by omega⟩, by simp, fun w0 h0 => ?_, fun w1 hw => ?_⟩
    · refine (wj_forget0 h0.j x).mono ?_
      rintro e w1 ⟨rfl, rfl⟩
      exact ⟨rfl, h0, fun _ _ q => q⟩
    · obtain ⟨mv, lv, r⟩ := hw.r
      refine (rforget_any r hw.j.2.size hm (by simp) x _ rfl).mono ?_
      rintro e w2 ⟨rfl, a1, a2⟩
      obtain ⟨b1, b2, -⟩ := hw.rj (Ad := fun _ => ⟨0, 0, none⟩) hx.base hx.lo a1 a2
      exact ⟨rfl, b1, b2⟩
  obtain ⟨lo, hlo⟩ : ∃ lo, (if lastM ms < x then lastM ms else x) = lo := ⟨_, rfl⟩
  have hst := stays_low hx.rel hup hp x
  rw [hlo] at hst
  have hrel := rel_keep_high hx.rel hup hrng lo
  rw [hst] at hrel
  have hcount : ((totP (p.take (staysP p x)) : Nat) : Int) = (es.length : Int) - ((keepE lo 1073741824 es).length : Int) := by
    rw [hx.rel.tot, hrel.tot]
    have e : totP p = totP (p.take (staysP p x)) + totP (p.drop (staysP p x)) := by
      conv => lhs; rw [← List.take_append_drop (staysP p x) p]
      exact totP_two _ _
    rw [e]
    omega
  refine ⟨(es.length : Int) - ((keepE lo 1073741824 es).length : Int), p.drop (staysP p x), keepM lo 1073741824 ms, keepE lo 1073741824 es, ⟨hx.base, hx.lo, hrel, fun e he => hx.inp e (keepE_mem he), by have := hx.few; rw [List.length_drop]; omega, by omega⟩, by have := keepE_le lo 1073741824 es; omega, fun w0 h0 => ?_, fun w1 hw => ?_⟩
  · refine (wj_forget h0.j hp (by have := hx.few; have := hx.q150; omega) x).mono ?_
    rintro e w1 ⟨rfl, a1, a2⟩
    obtain ⟨b1, b2⟩ := h0.pj hx.base hx.lo a1 (st_apu a2)
    exact ⟨by rw [hcount], b1, b2⟩
  · obtain ⟨mv, lv, r⟩ := hw.r
    refine (rforget_any r hw.j.2.size hm (by omega) x lo hlo).mono ?_
    rintro e w2 ⟨rfl, a1, a2⟩
    obtain ⟨b1, b2, -⟩ := hw.rj (Ad := fun _ => ⟨0, 0, none⟩) hx.base hx.lo a1 a2
    exact ⟨rfl, b1, b2⟩
end
end Go.Proofs.YtnbgjbdbbmpoaaaDoor.Jo
