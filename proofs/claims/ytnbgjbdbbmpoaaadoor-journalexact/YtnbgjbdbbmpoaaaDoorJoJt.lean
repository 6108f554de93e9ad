/- A journal, plainly: what each call does to it, with whatever lies beside it. -/
import Derived.Test.YtnbgjbdbbmpoaaaDoorJoJs
namespace Go.Proofs.YtnbgjbdbbmpoaaaDoor.Jo
open Go.RowKit Go.Shelf Go.Maps
/-- A journal without where it lies. -/
def pl (st : List Sx) : List (Int × List Ue) := st.map fun s => (s.f, s.l.map Ue.bare)
def totP (p : List (Int × List Ue)) : Nat := (p.map fun s => s.2.length).sum
def belowP (p : List (Int × List Ue)) (x : Int) : Nat := p.countP fun s => decide (s.1 < x)
def markedP (p : List (Int × List Ue)) (x : Int) : Bool := p.any fun s => s.1 == x
def aboveP (p : List (Int × List Ue)) (x : Int) : Bool := match p.getLast? with
  | none => true
  | some s => decide (s.1 < x)
def accPl (p : List (Int × List Ue)) : List Ue := (p.reverse.map fun s => s.2.reverse).flatten
theorem tot_pl (st : List Sx) : tot st = totP (pl st) := by
  unfold tot totP pl
  rw [List.map_map]
  congr 2
  funext s
  simp
theorem below_pl (st : List Sx) (x : Int) : belowN st x = belowP (pl st) x := by
  unfold belowN belowP pl
  rw [List.countP_map]
  rfl
theorem marked_pl (st : List Sx) (x : Int) : markedB st x = markedP (pl st) x := by
  unfold markedB markedP pl
  rw [List.any_map]
  rfl
theorem above_pl (st : List Sx) (x : Int) : aboveB st x = aboveP (pl st) x := by
  unfold aboveB aboveP pl
  rw [List.getLast?_map]
  cases st.getLast? <;> rfl
theorem acc_pl (st : List Sx) : acc st = accPl (pl st) := by
  unfold acc accPl pl
  rw [List.map_flatten, List.map_map, ← List.map_reverse, List.map_map]
  congr 1
  congr 1
  funext s
  simp
theorem told_bare (l : List Ue) (m : Mat) : toldB (l.map Ue.bare) m = toldB l m := by
  unfold toldB
  rw [List.any_map]
  rfl
theorem knows_bare (l : List Ue) (u : Ue) : knowsB (l.map Ue.bare) u = knowsB l u := by
  unfold knowsB
  simp only [told_bare]
theorem pl_len (st : List Sx) : (pl st).length = st.length := by simp [pl]
/-- A journal, and the world ahead of it as it was. -/
def Wj (W1 : World) (jb most : Nat) (p : List (Int × List Ue)) (w : World) : Prop := (∃ sv mv st, Jn W1.heap.size w jb sv mv most st ∧ pl st = p) ∧ St (fun k => k = jb) W1 w
/-- A journal as New made it. -/
def Wn (jb most : Nat) (w : World) : Prop := ∀ B, Jn B w jb (.slice none 0 0) (.map none) most []
/-- What is not of these types stays. -/
def Apt (w : World) (k : Nat) : Prop := ∃ cs e, w.heap[k]? = some (.cells cs e (0, 0)) ∧ e ≠ 68 ∧ e ≠ 75
def Apu (w : World) (k : Nat) : Prop := ∃ cs e, w.heap[k]? = some (.cells cs e (0, 0)) ∧ e ≠ 68 ∧ e ≠ 75 ∧ e ≠ 38
section
variable {W1 w w' : World} {jb most : Nat} {p : List (Int × List Ue)} {Ad : Nat → Addr}
theorem st_apu (h : St (fun k => ¬ Apt w k) w w') : St (fun k => ¬ Apu w k) w w' := ⟨h.os, h.tape, h.output, h.size, fun k hk hn => h.block k hk fun q => hn fun ⟨cs, e, a1, a2, a3, _⟩ => q ⟨cs, e, a1, a2, a3⟩⟩
theorem jb_step {T : Nat → Prop} (hb : St (fun k => k = jb) W1 w) (q : St T w w') (hT : ∀ k, T k → k = jb ∨ W1.heap.size ≤ k) : St (fun k => k = jb) W1 w' :=
  hb.trans q fun x hx t => (hT x t).elim id fun h => absurd hx (by omega)
theorem Wn.later (h : Wn jb most w) (hb : Below w.heap.size w w') : Wn jb most w' := fun B => (h B).later hb
theorem Wn.wj (h : Wn jb most w) : Wj w jb most [] w := ⟨⟨_, _, [], h _, rfl⟩, St.refl _ _⟩
theorem Wj.later (h : Wj W1 jb most p w) (hb : Below w.heap.size w w') : Wj W1 jb most p w' := by
  obtain ⟨⟨sv, mv, st, h1, h2⟩, h4⟩ := h
  exact ⟨⟨sv, mv, st, h1.later hb, h2⟩, jb_step (T := fun _ => False) h4 (St.of_below hb) fun _ q => q.elim⟩
theorem Wj.base (h : Wj W1 jb most p w) (hlo : W1.heap.size ≤ jb) : Below W1.heap.size W1 w := h.2.below (fun _ e => e ▸ hlo) (Nat.le_refl _)
theorem Wj.from {W0 : World} (h : Wj W1 jb most p w) (h0 : Below W0.heap.size W0 W1) (hlo : W0.heap.size ≤ jb) : Below W0.heap.size W0 w := h0.trans (h.2.below (fun _ e => e ▸ hlo) h0.size)
theorem mt_map {mb : Nat} {l : List Ue} (h : Mt w mb l) (cs : Array Value) (e : TypeId) (x : Nat × Nat) : w.heap[mb]? ≠ some (.cells cs e x) := by
  obtain ⟨es, cl, h⟩ := h.obj
  rw [h]
  simp
theorem Wj.kept {T : Nat → Prop} (h : Wj W1 jb most p w) (hs : St T w w') (hT : ∀ k, T k → W1.heap.size ≤ k ∧ ∃ cs e, w.heap[k]? = some (.cells cs e (0, 0)) ∧ e ≠ 68 ∧ e ≠ 75 ∧ e ≠ 38 ∧ e ≠ 35) : Wj W1 jb most p w' := by
  obtain ⟨⟨sv, mv, st, h1, h2⟩, h4⟩ := h
  refine ⟨⟨sv, mv, st, ?_, h2⟩, jb_step h4 hs fun k q => .inr (hT k q).1⟩
  refine ⟨hs.at h1.box fun t => ?_, h1.row.kept hs fun k hk t => ?_, fun s hm => (h1.ents s hm).kept hs (fun k hk t => ?_) fun u hu k hk t => ?_, h1.apart, fun a s e => ?_, h1.up, h1.rng, h1.good, h1.few, h1.slow, h1.mlow⟩
  · obtain ⟨-, cs, e, a1, a2, -⟩ := hT _ t
    rw [h1.box] at a1
    simp at a1
    exact a2 a1.2.symm
  · obtain ⟨-, cs, e, a1, a2, a3, -⟩ := hT _ t
    obtain ⟨c, t⟩ := h1.row.typ hk
    rw [t] at a1
    simp at a1
    exact a3 a1.2.symm
  · obtain ⟨-, cs, e, a1, a2, a3, a4, -⟩ := hT _ t
    obtain ⟨-, c, t⟩ := (h1.ents s hm).typ hk
    rw [t] at a1
    simp at a1
    exact a4 a1.2.symm
  · obtain ⟨-, cs, e, a1, a2, a3, a4, a5⟩ := hT _ t
    obtain ⟨c, t⟩ := Prts.at ((h1.ents s hm).2 u hu) hk
    rw [t] at a1
    simp at a1
    exact a5 a1.2.symm
  · obtain ⟨mb, e1, e2⟩ := h1.told a s e
    refine ⟨mb, e1, e2.kept hs fun t => ?_⟩
    obtain ⟨-, cs, e, a1, -⟩ := hT _ t
    exact mt_map e2 _ _ _ a1
theorem Err.apu {v : Value} {k d : Nat} (h : Err Ad w v k d) (hs : St (fun k => ¬ Apu w k) w w') : Err Ad w' v k d := h.kept hs fun _ cs q n => n ⟨cs, _, q, by decide, by decide, by decide⟩
theorem Err.apt {v : Value} {k d : Nat} (h : Err Ad w v k d) (hs : St (fun k => ¬ Apt w k) w w') : Err Ad w' v k d := h.apu (st_apu hs)
theorem Us.apt {B : Nat} {v : Value} {l : List Ue} (h : Us B w v l) (hs : St (fun k => ¬ Apt w k) w w') : Us B w' v l := h.kept hs
  (fun k hk n => n (by obtain ⟨-, c, t⟩ := h.typ hk; exact ⟨c, _, t, by decide, by decide⟩))
  (fun u hu k hk n => n (by obtain ⟨c, t⟩ := Prts.at (h.2 u hu) hk; exact ⟨c, _, t, by decide, by decide⟩))
theorem Ns.apu {B : Nat} {v : Value} {l : List Int} (h : Ns B w v l) (hs : St (fun k => ¬ Apu w k) w w') : Ns B w' v l := h.kept hs
  (fun k hk n => n (by obtain ⟨-, c, t⟩ := h.typ hk; exact ⟨c, _, t, by decide, by decide, by decide⟩))
theorem Ns.apt {B : Nat} {v : Value} {l : List Int} (h : Ns B w v l) (hs : St (fun k => ¬ Apt w k) w w') : Ns B w' v l := h.apu (st_apu hs)
/-- The two blocks that Mark, Back and Forget change. -/
theorem two_apt {B : Nat} {sv mv : Value} {st : List Sx} (hJ : Jn B w jb sv mv most st) (q5 : St (fun k => k = jb ∨ sv.ownBlock = some k) w w') : St (fun k => ¬ Apt w k) w w' := by
  refine ⟨q5.os, q5.tape, q5.output, q5.size, fun k hk hn => q5.block k hk fun q => hn fun ⟨cs, ty, a1, a2, a3⟩ => ?_⟩
  rcases q with rfl | q
  · rw [hJ.box] at a1
    simp at a1
    exact a2 a1.2.symm
  · obtain ⟨c, t⟩ := hJ.row.typ q
    rw [t] at a1
    simp at a1
    exact a3 a1.2.symm
theorem two_low {sv mv : Value} {st : List Sx} (hJ : Jn W1.heap.size w jb sv mv most st) (k : Nat) (q : k = jb ∨ sv.ownBlock = some k) : k = jb ∨ W1.heap.size ≤ k := q.imp id fun q => hJ.slow k q
theorem wn_new (W1 : World) (most : Nat) (h1 : 1 ≤ most) (h2 : most ≤ 65536) :
    Calls Tryd.prog 9 #[.int .i64 (most : Int)] W1 fun e w => e = .returned (.tuple #[.pointer (some ⟨W1.heap.size, 0, none⟩), .nilIface]) ∧ Wn W1.heap.size most w ∧ Below W1.heap.size W1 w := by
  refine (new_ok W1 most h1 h2).mono ?_
  rintro e w ⟨q1, rfl⟩
  exact ⟨q1, fun B => jn_new _ W1 most h2, bAl _ _⟩
theorem wj_new (W1 : World) (most : Nat) (h1 : 1 ≤ most) (h2 : most ≤ 65536) :
    Calls Tryd.prog 9 #[.int .i64 (most : Int)] W1 fun e w => e = .returned (.tuple #[.pointer (some ⟨W1.heap.size, 0, none⟩), .nilIface]) ∧ Wj W1 W1.heap.size most [] w := by
  refine (wn_new W1 most h1 h2).mono ?_
  rintro e w ⟨q1, q2, q3⟩
  exact ⟨q1, ⟨_, _, [], q2 _, rfl⟩, St.of_below q3⟩
theorem wj_mark (h : Wj W1 jb most p w) (x : Int) (h0 : 0 ≤ x) (h1 : x ≤ 1073741824) (ha : aboveP p x = true) :
    Calls Tryd.prog 12 #[.pointer (some ⟨jb, 0, none⟩), .int .i64 x] w fun e w' => e = .returned .nilIface ∧ Wj W1 jb most (p ++ [(x, [])]) w' ∧ St (fun k => ¬ Apt w k) w w' := by
  obtain ⟨⟨sv, mv, st, hJ, rfl⟩, hb⟩ := h
  refine (mark_ok hJ hb.size x h0 h1 (by rw [above_pl]; exact ha)).mono ?_
  rintro e w' ⟨q, sv', mv', q1, q2⟩
  exact ⟨q, ⟨⟨sv', mv', _, q1, by simp [pl]⟩, jb_step hb q2 (two_low hJ)⟩, two_apt hJ q2⟩
theorem Fn_low {sv mv : Value} {a : List Sx} {s : Sx} (hJ : Jn W1.heap.size w jb sv mv most (a ++ [s])) (k : Nat) (q : Fn jb sv mv s k) : k = jb ∨ W1.heap.size ≤ k := by
  rcases q with rfl | q | q | q
  · exact .inl rfl
  · exact .inr (hJ.slow k q)
  · exact .inr (hJ.mlow k q)
  · exact .inr ((hJ.ents s (by simp)).typ q).1
theorem Fn_apu {B : Nat} {sv mv : Value} {a : List Sx} {s : Sx} (hJ : Jn B w jb sv mv most (a ++ [s])) (q5 : St (Fn jb sv mv s) w w') : St (fun k => ¬ Apu w k) w w' := by
  refine ⟨q5.os, q5.tape, q5.output, q5.size, fun k hk hn => q5.block k hk fun q => hn fun ⟨cs, ty, a1, a2, a3, a4⟩ => ?_⟩
  rcases q with rfl | q | q | q
  · rw [hJ.box] at a1
    simp at a1
    exact a2 a1.2.symm
  · obtain ⟨c, t⟩ := hJ.row.typ q
    rw [t] at a1
    simp at a1
    exact a3 a1.2.symm
  · obtain ⟨mb, e1, e2⟩ := hJ.told a s rfl
    rw [e1] at q
    obtain rfl : mb = k := by simpa using q
    exact mt_map e2 _ _ _ a1
  · obtain ⟨-, c, t⟩ := (hJ.ents s (by simp)).typ q
    rw [t] at a1
    simp at a1
    exact a4 a1.2.symm
theorem pl_split {st : List Sx} {a : List (Int × List Ue)} {f : Int} {l : List Ue} (h : pl st = a ++ [(f, l)]) : ∃ b s, st = b ++ [s] ∧ pl b = a ∧ s.f = f ∧ s.l.map Ue.bare = l := by
  by_cases h0 : st = []
  · subst h0
    simp [pl] at h
  · obtain ⟨b, s, rfl⟩ : ∃ l s, st = l ++ [s] := ⟨st.dropLast, st.getLast h0, (List.dropLast_concat_getLast h0).symm⟩
    unfold pl at h
    rw [List.map_append] at h
    obtain ⟨e1, e2⟩ := List.append_inj' h rfl
    simp at e2
    exact ⟨b, s, rfl, e1, e2.1, e2.2⟩
theorem wj_note {a : List (Int × List Ue)} {f : Int} {l : List Ue} (h : Wj W1 jb most (a ++ [(f, l)]) w) (u : Ue) (hu : u.ok) (h0 : 1 ≤ u.k) (h9 : u.k ≤ 9) (hp : PSrc w u.pv u.ps) (hps : u.ps.length ≤ 1000) (hk : knowsB l u = false) (hf : totP (a ++ [(f, l)]) < most) :
    Calls Tryd.prog 14 #[.pointer (some ⟨jb, 0, none⟩), .agg #[.int .i64 u.k, .int .i64 u.id, .int .i64 u.p.c, .int .i64 u.p.v0, .int .i64 u.p.v1, .int .i64 u.p.v2, .int .i64 u.p.v3, .int .i64 u.p.t, u.pv, .int .i64 u.n, .int .i64 u.o]] w fun e w' => e = .returned .nilIface ∧ Wj W1 jb most (a ++ [(f, l ++ [u.bare])]) w' ∧ St (fun k => ¬ Apu w k) w w' := by
  obtain ⟨⟨sv, mv, st, hJ, e⟩, hb⟩ := h
  rw [← e, ← tot_pl] at hf
  obtain ⟨b, s, rfl, rfl, rfl, rfl⟩ := pl_split e
  rw [knows_bare] at hk
  refine (note_ok hJ hb.size u hu h0 h9 hp hps hk hf).mono ?_
  rintro e w' ⟨q, v', ev', q1, q2⟩
  exact ⟨q, ⟨⟨sv, mv, _, q1, by simp [pl, Ue.bare_with]⟩, jb_step hb q2 (Fn_low hJ)⟩, Fn_apu hJ q2⟩
theorem wj_old {a : List (Int × List Ue)} {f : Int} {l : List Ue} (h : Wj W1 jb most (a ++ [(f, l)]) w) (u : Ue) (hu : u.ok) (h0 : 1 ≤ u.k) (h9 : u.k ≤ 9) (hpv : ∃ ad n c, u.pv = .slice ad n c) (hk : knowsB l u = true) :
    Calls Tryd.prog 14 #[.pointer (some ⟨jb, 0, none⟩), .agg #[.int .i64 u.k, .int .i64 u.id, .int .i64 u.p.c, .int .i64 u.p.v0, .int .i64 u.p.v1, .int .i64 u.p.v2, .int .i64 u.p.v3, .int .i64 u.p.t, u.pv, .int .i64 u.n, .int .i64 u.o]] w fun e w' => e = .returned .nilIface ∧ Below w.heap.size w w' := by
  obtain ⟨⟨sv, mv, st, hJ, e⟩, hb⟩ := h
  obtain ⟨b, s, rfl, e1, e2, rfl⟩ := pl_split e
  rw [knows_bare] at hk
  exact note_old hJ u hu h0 h9 hpv hk
theorem wj_full {a : List (Int × List Ue)} {f : Int} {l : List Ue} (h : Wj W1 jb most (a ++ [(f, l)]) w) (hE : Env8 w Ad) (u : Ue) (hu : u.ok) (h0 : 1 ≤ u.k) (h9 : u.k ≤ 9) (hpv : ∃ ad n c, u.pv = .slice ad n c) (hk : knowsB l u = false) (hf : totP (a ++ [(f, l)]) = most) :
    Calls Tryd.prog 14 #[.pointer (some ⟨jb, 0, none⟩), .agg #[.int .i64 u.k, .int .i64 u.id, .int .i64 u.p.c, .int .i64 u.p.v0, .int .i64 u.p.v1, .int .i64 u.p.v2, .int .i64 u.p.v3, .int .i64 u.p.t, u.pv, .int .i64 u.n, .int .i64 u.o]] w fun e w' => ∃ t q, e = .returned (.iface t q) ∧ Err Ad w' (.iface t q) 6 1 ∧ Below w.heap.size w w' := by
  obtain ⟨⟨sv, mv, st, hJ, e⟩, hb⟩ := h
  rw [← e, ← tot_pl] at hf
  obtain ⟨b, s, rfl, e1, e2, rfl⟩ := pl_split e
  rw [knows_bare] at hk
  exact note_full hJ hE u hu h0 h9 hpv hk hf
theorem wj_state (h : Wj W1 jb most [] w) (hE : Env8 w Ad) (u : Ue) (h0 : 1 ≤ u.k) (h9 : u.k ≤ 9) (hpv : ∃ ad n c, u.pv = .slice ad n c) :
    Calls Tryd.prog 14 #[.pointer (some ⟨jb, 0, none⟩), .agg #[.int .i64 u.k, .int .i64 u.id, .int .i64 u.p.c, .int .i64 u.p.v0, .int .i64 u.p.v1, .int .i64 u.p.v2, .int .i64 u.p.v3, .int .i64 u.p.t, u.pv, .int .i64 u.n, .int .i64 u.o]] w fun e w' => ∃ t q, e = .returned (.iface t q) ∧ Err Ad w' (.iface t q) 8 1 ∧ Below w.heap.size w w' := by
  obtain ⟨⟨sv, mv, st, hJ, e⟩, hb⟩ := h
  obtain rfl : st = [] := by simpa [pl] using e
  exact note_state hJ hE u h0 h9 hpv
theorem wj_mark_bad (h : Wj W1 jb most p w) (hE : Env8 w Ad) (x : Int) (hx : x < 0 ∨ 1073741824 < x ∨ aboveP p x = false) :
    Calls Tryd.prog 12 #[.pointer (some ⟨jb, 0, none⟩), .int .i64 x] w fun e w' => ∃ t q, e = .returned (.iface t q) ∧ Err Ad w' (.iface t q) 1 1 ∧ Below w.heap.size w w' := by
  obtain ⟨⟨sv, mv, st, hJ, rfl⟩, hb⟩ := h
  exact mark_bad hJ hE x (by rw [above_pl]; exact hx)
theorem wj_since (h : Wj W1 jb most p w) (hst : p.length ≤ 1000000) (x : Int) (hm : markedP p x = true) :
    Calls Tryd.prog 16 #[.pointer (some ⟨jb, 0, none⟩), .int .i64 x] w fun e w' => ∃ lv l, e = .returned (.tuple #[lv, .nilIface]) ∧ Us w.heap.size w' lv l ∧ l.map Ue.bare = accPl (p.drop (belowP p x)) ∧ Below w.heap.size w w' := by
  obtain ⟨⟨sv, mv, st, hJ, rfl⟩, hb⟩ := h
  rw [pl_len] at hst
  refine (since_ok hJ hst x (by rw [marked_pl]; exact hm)).mono ?_
  rintro e w' ⟨lv, l, q1, q2, q3, q4⟩
  refine ⟨lv, l, q1, q2, ?_, q4⟩
  rw [q3, acc_pl, below_pl]
  unfold pl
  rw [List.map_drop]
theorem wj_since_bad (h : Wj W1 jb most p w) (hE : Env8 w Ad) (x : Int) (hm : markedP p x = false) :
    Calls Tryd.prog 16 #[.pointer (some ⟨jb, 0, none⟩), .int .i64 x] w fun e w' => ∃ t q, e = .returned (.tuple #[.slice none 0 0, .iface t q]) ∧ Err Ad w' (.iface t q) 16 1 ∧ Below w.heap.size w w' := by
  obtain ⟨⟨sv, mv, st, hJ, rfl⟩, hb⟩ := h
  exact since_bad hJ hE x (by rw [marked_pl]; exact hm)
theorem wj_back_bad (h : Wj W1 jb most p w) (hE : Env8 w Ad) (x : Int) (hm : markedP p x = false) :
    Calls Tryd.prog 18 #[.pointer (some ⟨jb, 0, none⟩), .int .i64 x] w fun e w' => ∃ t q, e = .returned (.tuple #[.slice none 0 0, .iface t q]) ∧ Err Ad w' (.iface t q) 16 1 ∧ Below w.heap.size w w' := by
  obtain ⟨⟨sv, mv, st, hJ, rfl⟩, hb⟩ := h
  exact back_bad hJ hE x (by rw [marked_pl]; exact hm)
theorem wj_back (h : Wj W1 jb most p w) (hst : p.length ≤ 1000000) (x : Int) (hm : markedP p x = true) :
    Calls Tryd.prog 18 #[.pointer (some ⟨jb, 0, none⟩), .int .i64 x] w fun e w' => ∃ lv l, e = .returned (.tuple #[lv, .nilIface]) ∧ Us w.heap.size w' lv l ∧ l.map Ue.bare = accPl (p.drop (belowP p x)) ∧ Wj W1 jb most (p.take (belowP p x) ++ [(x, [])]) w' ∧ St (fun k => ¬ Apt w k) w w' := by
  obtain ⟨⟨sv, mv, st, hJ, rfl⟩, hb⟩ := h
  rw [pl_len] at hst
  refine (back_ok hJ hb.size hst x (by rw [marked_pl]; exact hm)).mono ?_
  rintro e w' ⟨lv, l, q1, q2, q3, sv', mv', q4, q5⟩
  refine ⟨lv, l, q1, q2, ?_, ⟨⟨sv', mv', _, q4, ?_⟩, jb_step hb q5 (two_low hJ)⟩, two_apt hJ q5⟩
  · rw [q3, acc_pl, below_pl]
    unfold pl
    rw [List.map_drop]
  · rw [below_pl]
    unfold pl
    rw [List.map_append, List.map_take]
    rfl
def staysP (p : List (Int × List Ue)) (x : Int) : Nat := min (belowP p x) (p.length - 1)
theorem wj_forget (h : Wj W1 jb most p w) (h0 : p ≠ []) (hst : p.length ≤ 1000000) (x : Int) :
    Calls Tryd.prog 20 #[.pointer (some ⟨jb, 0, none⟩), .int .i64 x] w fun e w' => e = .returned (.int .i64 ((totP (p.take (staysP p x)) : Nat) : Int)) ∧ Wj W1 jb most (p.drop (staysP p x)) w' ∧ St (fun k => ¬ Apt w k) w w' := by
  obtain ⟨⟨sv, mv, st, hJ, rfl⟩, hb⟩ := h
  rw [pl_len] at hst
  have e0 : stays st x = staysP (pl st) x := by unfold stays staysP; rw [below_pl, pl_len]
  refine (forget_ok hJ (fun q => h0 (by rw [q]; rfl)) hst x).mono ?_
  rintro e w' ⟨q1, sv', q4, q5⟩
  refine ⟨?_, ⟨⟨sv', mv, _, q4, ?_⟩, jb_step hb q5 (two_low hJ)⟩, two_apt hJ q5⟩
  · rw [q1, tot_pl, e0]
    unfold pl
    rw [List.map_take]
  · rw [e0]
    unfold pl
    rw [List.map_drop]
theorem wj_forget0 (h : Wj W1 jb most [] w) (x : Int) :
    Calls Tryd.prog 20 #[.pointer (some ⟨jb, 0, none⟩), .int .i64 x] w fun e w' => e = .returned (.int .i64 0) ∧ w' = w := by
  obtain ⟨⟨sv, mv, st, hJ, e⟩, hb⟩ := h
  obtain rfl : st = [] := by simpa [pl] using e
  exact forget_none hJ x
theorem wj_len (h : Wj W1 jb most p w) :
    Calls Tryd.prog 24 #[.pointer (some ⟨jb, 0, none⟩)] w fun e w' => e = .returned (.int .i64 ((totP p : Nat) : Int)) ∧ w' = w := by
  obtain ⟨⟨sv, mv, st, hJ, rfl⟩, hb⟩ := h
  rw [← tot_pl]
  exact len_any hJ
theorem wj_marks (h : Wj W1 jb most p w) (hst : p.length ≤ 1000000) :
    Calls Tryd.prog 26 #[.pointer (some ⟨jb, 0, none⟩)] w fun e w' => ∃ v, e = .returned v ∧ Ns w.heap.size w' v (p.map Prod.fst) ∧ Below w.heap.size w w' := by
  obtain ⟨⟨sv, mv, st, hJ, rfl⟩, hb⟩ := h
  rw [pl_len] at hst
  have e : (pl st).map Prod.fst = st.map Sx.f := by simp [pl]
  rw [e]
  exact marks_any hJ hst
theorem Wj.few (h : Wj W1 jb most p w) : totP p ≤ most ∧ most ≤ 65536 := by
  obtain ⟨⟨sv, mv, st, hJ, rfl⟩, hb⟩ := h
  rw [← tot_pl]
  exact hJ.few
theorem Wj.lt (h : Wj W1 jb most p w) : jb < w.heap.size := by
  obtain ⟨⟨sv, mv, st, hJ, rfl⟩, hb⟩ := h
  exact hJ.lt
end
end Go.Proofs.YtnbgjbdbbmpoaaaDoor.Jo
