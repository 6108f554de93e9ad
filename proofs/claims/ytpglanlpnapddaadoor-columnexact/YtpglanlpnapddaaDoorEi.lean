/- ColumnExact: both columns, and what a call answers. -/
import Derived.Test.YtpglanlpnapddaaDoorEg
import Derived.Test.YtpglanlpnapddaaDoorEh
import Derived.Test.YtpglanlpnapddaaDoorCq
import Derived.Test.YtpglanlpnapddaaDoorKh
namespace Go.Proofs.YtpglanlpnapddaaDoor
open Go.RowKit Go.Shelf Go.Maps
/-- An error and its number. -/
def FE (Ad : Nat → Addr) (W : World) (fv : Value) (g : Nat) : Prop := (fv = .nilIface ∧ g = 0) ∨ ((g = 1 ∨ g = 7) ∧ ∃ d, Err Ad W fv g d ∧ d ≤ 2)
theorem FE.later {Ad : Nat → Addr} {W W' : World} {fv : Value} {g : Nat} (h : FE Ad W fv g) (hb : Below W.heap.size W W') : FE Ad W' fv g := by
  rcases h with h | ⟨h1, d, h2, h3⟩
  · exact .inl h
  · exact .inr ⟨h1, d, h2.later hb, h3⟩
theorem Ch.keptTo {Ad : Nat → Addr} {k : Nat} {T : Nat → Prop} {W W' : World} (hs : St T W W') (hT : ∀ b s, T b → W.cell? ⟨b, 0, none⟩ ≠ some (.string s)) : ∀ {ws : List ByteArray} {v : Value}, Ch Ad W.heap.size W k ws v → Ch Ad W.heap.size W' k ws v
  | [], _, hc => hc
  | s :: _, _, ⟨b, inner, hv, hb, c0, c1, hi⟩ =>
    have hn : ¬ T b := fun e => hT b s e c0
    have he : W'.heap[b]? = W.heap[b]? := hs.block b hb hn
    ⟨b, inner, hv, hb, (World.cell?_of_block (w := W) (a := ⟨b, 0, none⟩) he).trans c0, (World.cell?_of_block (w := W) (a := ⟨b, 1, none⟩) he).trans c1, Ch.keptTo hs hT hi⟩
theorem FE.put {Ad : Nat → Addr} {W W' : World} {fv : Value} {g b : Nat} {u : Int} (h : FE Ad W fv g) (hs : St (fun k => k = b) W W') (hc : W.cell? ⟨b, 0, none⟩ = some (.int .i64 u)) : FE Ad W' fv g := by
  rcases h with h | ⟨h1, d, ⟨ws, h2⟩, h3⟩
  · exact .inl h
  · refine .inr ⟨h1, d, ⟨ws, (h2.1.keptTo hs fun k s e q => ?_).wider hs.size, h2.2⟩, h3⟩
    subst e
    rw [hc] at q
    simp at q
theorem num_fe {Ad : Nat → Addr} {W : World} {fv : Value} {g : Nat} (hE : Env W Ad) (h : FE Ad W fv g) : Calls Tryd.prog 19 #[fv] W fun e w' => e = .returned (.int .i64 (g : Int)) ∧ Below W.heap.size W w' := by
  rcases h with ⟨rfl, rfl⟩ | ⟨h1, d, h2, h3⟩
  · refine (number_nil W).mono ?_
    rintro e w' ⟨rfl, rfl⟩
    exact ⟨rfl, Below.refl _ _⟩
  · have hv := h2.shape
    obtain ⟨ws, h2⟩ := h2
    have hh := number_some Ad fv [(ws, g)] d W hE h2.tr (by omega) hv
    have hk : numOf [g] = (g : Int) := by rcases h1 with rfl | rfl <;> decide
    refine hh.mono ?_
    rintro e w' ⟨rfl, hb⟩
    refine ⟨?_, hb⟩
    show Ending.returned (.int .i64 (numOf [g])) = _
    rw [hk]
/-- The document's column whose blocks are U. -/
def Rer (B : Nat) (W : World) (ub : Nat) (s : CS) (U : Nat → Prop) : Prop := ∃ lv, Rc B W ub lv s ∧ ∀ k, U k ↔ Fu ub lv k
section
variable {B : Nat} {W W' : World} {rb ub : Nat} {s : CS} {S U : Nat → Prop}
theorem Rer.kept {T : Nat → Prop} (h : Rer B W ub s U) (hs : St T W W') (hd : ∀ k, U k → ¬ T k) : Rer B W' ub s U := by
  obtain ⟨lv, h1, h2⟩ := h
  exact ⟨lv, h1.kept hs fun k hk => hd k ((h2 k).2 hk), h2⟩
theorem Rer.later (h : Rer B W ub s U) (hb : Below W.heap.size W W') : Rer B W' ub s U := h.kept (T := fun _ => False) (St.of_below hb) fun _ _ q => q
theorem Rer.lt (h : Rer B W ub s U) (k : Nat) (hk : U k) : B ≤ k ∧ k < W.heap.size := by
  obtain ⟨lv, h1, h2⟩ := h
  exact h1.lt k ((h2 k).1 hk)
theorem Rer.base (h : Rer B W ub s U) : B ≤ W.heap.size := by obtain ⟨lv, h1, h2⟩ := h; exact h1.base
theorem Rer.below (h : Rer B W ub s U) (hs : St U W W') : Below B W W' := hs.below (fun k hk => (h.lt k hk).1) h.base
theorem Rer.c2 (h : Rer B W ub s U) : ∃ a c, W.cell? ⟨ub, 2, none⟩ = some (.slice a s.rows.length c) := by
  obtain ⟨lv, h1, h2⟩ := h
  obtain ⟨a, c, rfl⟩ := h1.row.slice
  exact ⟨a, c, h1.c2⟩
theorem rer_since (h : Rer B W ub s U) (f : Int) : Calls Tryd.prog 23 #[.pointer (some ⟨ub, 0, none⟩), .int .i64 f] W fun e W' => ∃ v, e = .returned v ∧ Ints W.heap.size W' v (since s.rows f s.rows.length) ∧ Below W.heap.size W W' := by
  obtain ⟨lv, h1, h2⟩ := h
  exact rsince_any h1 f
theorem rer_new (W : World) (c : Int) (w : Nat) (h0 : 0 ≤ c) (h1 : c ≤ 15) (hw0 : 1 ≤ w) (hw : w ≤ 4) (hB : B ≤ W.heap.size) :
    Calls Tryd.prog 9 #[.int .i64 c, .int .i64 (w : Int)] W fun e W' => ∃ ub U, e = .returned (.pointer (some ⟨ub, 0, none⟩)) ∧ Rer B W' ub ⟨c, w, []⟩ U ∧ (∀ x, U x → W.heap.size ≤ x) ∧ Below W.heap.size W W' := by
  refine (rnew_ok W c w h0 h1 hw0 hw).mono ?_
  rintro e w1 ⟨rfl, h, hb⟩
  exact ⟨_, _, rfl, ⟨_, ⟨h.box, h.row.lower hB, Nat.le_trans hB h.low, h.w0, h.w4, h.small⟩, fun _ => Iff.rfl⟩, fun x hx => (h.lt x hx).1, hb⟩
end
/-- What a call of the column leaves. -/
def CPost (Ad : Nat → Addr) (B rb : Nat) (s' : CS) (S : Nat → Prop) (W : World) (v : Value → Value) (g : Nat) (e : Ending) (W' : World) : Prop :=
  ∃ fv, e = .returned (v fv) ∧ FE Ad W' fv g ∧ ∃ S', Col B W' rb s' S' ∧ St S W W' ∧ ∀ x, S' x → S x ∨ W.heap.size ≤ x
/-- What a call of the document's leaves. -/
def RPost (B ub : Nat) (s' : CS) (U : Nat → Prop) (W : World) (v : Value) (g : Nat) (e : Ending) (W' : World) : Prop :=
  e = .returned v ∧ (g ≠ 0 → Below W.heap.size W W') ∧ ∃ U', Rer B W' ub s' U' ∧ St U W W' ∧ ∀ x, U' x → U x ∨ W.heap.size ≤ x
def Nx (s s' : CS) : Prop := s'.comp = s.comp ∧ s'.w = s.w ∧ s'.rows.length ≤ s.rows.length + 1
theorem cpost_bad {Ad : Nat → Addr} {B rb f : Nat} {s : CS} {S : Nat → Prop} {W : World} {v : Value → Value} {g d : Nat} {args : Array Value} (hc : Col B W rb s S) (hg : g = 1 ∨ g = 7) (hd : d ≤ 2)
    (h : Calls Tryd.prog f args W fun e W' => ∃ t q, e = .returned (v (.iface t q)) ∧ Err Ad W' (.iface t q) g d ∧ Below W.heap.size W W') : Calls Tryd.prog f args W (CPost Ad B rb s S W v g) := by
  refine h.mono ?_
  rintro e w ⟨t, q, rfl, he, hb⟩
  exact ⟨_, rfl, .inr ⟨hg, d, he, hd⟩, S, hc.later hb, St.of_below hb, fun x hx => .inl hx⟩
theorem rpost_bad {B ub f : Nat} {s : CS} {U : Nat → Prop} {W : World} {v : Value} {g : Nat} {args : Array Value} (hc : Rer B W ub s U)
    (h : Calls Tryd.prog f args W fun e W' => e = .returned v ∧ Below W.heap.size W W') : Calls Tryd.prog f args W (RPost B ub s U W v g) := by
  refine h.mono ?_
  rintro e w ⟨rfl, hb⟩
  exact ⟨rfl, fun _ => hb, U, hc.later hb, St.of_below hb, fun x hx => .inl hx⟩
theorem rpost_ok {B ub f : Nat} {lv : Value} {s' : CS} {U : Nat → Prop} {W : World} {v : Value} {args : Array Value} (h2 : ∀ k, U k ↔ Fu ub lv k)
    (h : Calls Tryd.prog f args W fun e W' => e = .returned v ∧ ∃ lv', Rc B W' ub lv' s' ∧ St (Fu ub lv) W W' ∧ ∀ x, lv'.ownBlock = some x → W.heap.size ≤ x) : Calls Tryd.prog f args W (RPost B ub s' U W v 0) := by
  refine h.mono ?_
  rintro e w ⟨rfl, lv', h3, h5, h4⟩
  refine ⟨rfl, fun q => absurd rfl q, Fu ub lv', ⟨lv', h3, fun _ => Iff.rfl⟩, ⟨h5.os, h5.tape, h5.output, h5.size, fun k hk hn => h5.block k hk fun q => hn ((h2 k).2 q)⟩, fun x hx => ?_⟩
  rcases hx with hx | hx
  · exact .inl ((h2 x).2 (.inl hx))
  · exact .inr (h4 x hx)
theorem both_push (s : CS) (hsm : s.rows.length < 1000) (cm : Int) (p : Pt) (ht : I64 p.t) : ∃ (n g : Nat) (s' : CS), Nx s s' ∧
    (∀ Ad B W rb S, Col B W rb s S → Env3 W Ad → Calls Tryd.prog 11 #[.pointer (some ⟨rb, 0, none⟩), p.val cm] W (CPost Ad B rb s' S W (fun f => .tuple #[.int .i64 (n : Int), f]) g)) ∧
    (∀ B W ub U, Rer B W ub s U → Calls Tryd.prog 12 #[.pointer (some ⟨ub, 0, none⟩), p.val cm] W (RPost B ub s' U W (.tuple #[.int .i64 (n : Int), .int .i64 (g : Int)]) g)) := by
  by_cases h : ((cm == s.comp) && p.fitB s.w) = true
  · obtain ⟨h1, h2⟩ : cm = s.comp ∧ p.fitB s.w = true := by simpa using h
    subst h1
    refine ⟨s.rows.length, 0, ⟨s.comp, s.w, s.rows ++ [p]⟩, ⟨rfl, rfl, by simp⟩, fun Ad B W rb S hc hE => ?_, fun B W ub U hr => ?_⟩
    · refine (col_push hc p h2 ht hsm).mono ?_
      rintro e w ⟨rfl, S', h3, h4, h5⟩
      exact ⟨_, rfl, .inl ⟨rfl, rfl⟩, S', h3, h4, h5⟩
    · obtain ⟨lv, h3, h4⟩ := hr
      exact rpost_ok h4 (rpush_ok h3 p h2 hsm)
  · have h' : ((cm == s.comp) && p.fitB s.w) = false := by simpa using h
    refine ⟨0, 1, s, ⟨rfl, rfl, by omega⟩, fun Ad B W rb S hc hE => ?_, fun B W ub U hr => ?_⟩
    · refine cpost_bad hc (.inl rfl) (Nat.le_refl 2) (col_pushbad Ad hc hE cm p ?_)
      by_cases e : cm = s.comp
      · right; simpa [e] using h'
      · exact .inl e
    · obtain ⟨lv, h3, h4⟩ := id hr
      exact rpost_bad hr (rpush_bad h3 cm p h')
theorem both_put (s : CS) (i cm : Int) (p : Pt) (hi : I64 i) (ht : I64 p.t) : ∃ (q : Pt) (qc : Int) (g : Nat) (s' : CS), Nx s s' ∧
    (∀ Ad B W rb S, Col B W rb s S → Env3 W Ad → Calls Tryd.prog 15 #[.pointer (some ⟨rb, 0, none⟩), .int .i64 i, p.val cm] W (CPost Ad B rb s' S W (fun f => .tuple #[q.val qc, f]) g)) ∧
    (∀ B W ub U, Rer B W ub s U → Calls Tryd.prog 16 #[.pointer (some ⟨ub, 0, none⟩), .int .i64 i, p.val cm] W (RPost B ub s' U W (.tuple #[q.val qc, .int .i64 (g : Int)]) g)) := by
  cases hr : rowAt s.rows i with
  | none =>
    refine ⟨Pt.zero, 0, 7, s, ⟨rfl, rfl, by omega⟩, fun Ad B W rb S hc hE => ?_, fun B W ub U hu => ?_⟩
    · exact cpost_bad hc (.inr rfl) (Nat.le_refl 2) (col_putnone Ad hc hE i cm p hi hr)
    · obtain ⟨lv, h3, h4⟩ := id hu
      exact rpost_bad hu (rput_none h3 i cm p hr)
  | some r =>
    obtain ⟨n, rfl, hn, hp⟩ := rowAt_some hr
    by_cases h : ((cm == s.comp) && p.fitB s.w) = true
    · obtain ⟨h1, h2⟩ : cm = s.comp ∧ p.fitB s.w = true := by simpa using h
      subst h1
      refine ⟨r, s.comp, 0, s.turned n p, ⟨rfl, rfl, by simp [CS.turned]⟩, fun Ad B W rb S hc hE => ?_, fun B W ub U hu => ?_⟩
      · refine (col_put hc n r hp p h2 ht).mono ?_
        rintro e w ⟨rfl, h3, h4⟩
        exact ⟨_, rfl, .inl ⟨rfl, rfl⟩, S, h3, h4, fun x hx => .inl hx⟩
      · obtain ⟨lv, h3, h4⟩ := hu
        exact rpost_ok h4 (rput_ok h3 n r hp p h2)
    · have h' : ((cm == s.comp) && p.fitB s.w) = false := by simpa using h
      refine ⟨Pt.zero, 0, 1, s, ⟨rfl, rfl, by omega⟩, fun Ad B W rb S hc hE => ?_, fun B W ub U hu => ?_⟩
      · refine cpost_bad hc (.inl rfl) (Nat.le_refl 2) (col_putbad Ad hc hE n r hp cm p ?_)
        by_cases e : cm = s.comp
        · right; simpa [e] using h'
        · exact .inl e
      · obtain ⟨lv, h3, h4⟩ := id hu
        exact rpost_bad hu (rput_bad h3 n hn cm p h')
theorem both_set (s : CS) (hok : s.ok) (i cell value : Int) (f : Nat) (hi : I64 i) (hf : f ≤ 1000) : ∃ (q : Pt) (qc : Int) (g : Nat) (s' : CS), Nx s s' ∧
    (∀ Ad B W rb S, Col B W rb s S → Env3 W Ad → Calls Tryd.prog 13 #[.pointer (some ⟨rb, 0, none⟩), .int .i64 i, .int .i64 cell, .int .i64 value, .int .i64 (f : Int)] W (CPost Ad B rb s' S W (fun f => .tuple #[q.val qc, f]) g)) ∧
    (∀ B W ub U, Rer B W ub s U → Calls Tryd.prog 14 #[.pointer (some ⟨ub, 0, none⟩), .int .i64 i, .int .i64 cell, .int .i64 value, .int .i64 (f : Int)] W (RPost B ub s' U W (.tuple #[q.val qc, .int .i64 (g : Int)]) g)) := by
  cases hr : rowAt s.rows i with
  | none =>
    refine ⟨Pt.zero, 0, 7, s, ⟨rfl, rfl, by omega⟩, fun Ad B W rb S hc hE => ?_, fun B W ub U hu => ?_⟩
    · exact cpost_bad hc (.inr rfl) (Nat.le_refl 2) (col_setnone Ad hc hE i cell value f hi hr)
    · obtain ⟨lv, h3, h4⟩ := id hu
      exact rpost_bad hu (rset_none h3 i cell value f hr)
  | some r =>
    obtain ⟨n, rfl, hn, hp⟩ := rowAt_some hr
    by_cases h : cell < 0 ∨ (s.w : Int) ≤ cell
    · refine ⟨Pt.zero, 0, 1, s, ⟨rfl, rfl, by omega⟩, fun Ad B W rb S hc hE => ?_, fun B W ub U hu => ?_⟩
      · exact cpost_bad hc (.inl rfl) (Nat.le_refl 2) (col_setcell Ad hc hE n r hp cell value f h)
      · obtain ⟨lv, h3, h4⟩ := id hu
        exact rpost_bad hu (rset_cell h3 n hn cell value f h)
    · obtain ⟨j, rfl⟩ : ∃ j : Nat, cell = (j : Int) := Int.eq_ofNat_of_zero_le (by omega)
      have hj : j < s.w := by omega
      refine ⟨r, s.comp, 0, s.turned n (r.put j value f), ⟨rfl, rfl, by simp [CS.turned]⟩, fun Ad B W rb S hc hE => ?_, fun B W ub U hu => ?_⟩
      · refine (col_set hc n r hp j hj value f (I64_mid (by omega) (by omega))).mono ?_
        rintro e w ⟨rfl, h3, h4⟩
        exact ⟨_, rfl, .inl ⟨rfl, rfl⟩, S, h3, h4, fun x hx => .inl hx⟩
      · obtain ⟨lv, h3, h4⟩ := hu
        exact rpost_ok h4 (rset_ok h3 n r hp (hok.fit r (List.mem_of_getElem? hp)).1 j hj value f)
theorem both_take (s : CS) (i : Int) (hi : I64 i) : ∃ (q : Pt) (qc : Int) (g : Nat) (s' : CS), Nx s s' ∧
    (∀ Ad B W rb S, Col B W rb s S → Env3 W Ad → Calls Tryd.prog 17 #[.pointer (some ⟨rb, 0, none⟩), .int .i64 i] W (CPost Ad B rb s' S W (fun f => .tuple #[q.val qc, f]) g)) ∧
    (∀ B W ub U, Rer B W ub s U → Calls Tryd.prog 18 #[.pointer (some ⟨ub, 0, none⟩), .int .i64 i] W (RPost B ub s' U W (.tuple #[q.val qc, .int .i64 (g : Int)]) g)) := by
  cases hr : rowAt s.rows i with
  | none =>
    refine ⟨Pt.zero, 0, 7, s, ⟨rfl, rfl, by omega⟩, fun Ad B W rb S hc hE => ?_, fun B W ub U hu => ?_⟩
    · exact cpost_bad hc (.inr rfl) (Nat.le_refl 2) (col_takenone Ad hc hE i hi hr)
    · obtain ⟨lv, h3, h4⟩ := id hu
      exact rpost_bad hu (rtake_none h3 i hr)
  | some r =>
    obtain ⟨n, rfl, hn, hp⟩ := rowAt_some hr
    obtain ⟨pl, hpl⟩ := at_lt s.rows (s.rows.length - 1) (by omega)
    refine ⟨r, s.comp, 0, s.taken n pl, ⟨rfl, rfl, by simp [CS.taken]; omega⟩, fun Ad B W rb S hc hE => ?_, fun B W ub U hu => ?_⟩
    · refine (col_take hc n r hp pl hpl).mono ?_
      rintro e w ⟨rfl, h3, h4⟩
      exact ⟨_, rfl, .inl ⟨rfl, rfl⟩, S, h3, h4, fun x hx => .inl hx⟩
    · obtain ⟨lv, h3, h4⟩ := hu
      exact rpost_ok h4 (rtake_ok h3 n r hp pl hpl)
theorem both_row (s : CS) (i : Int) (hi : I64 i) : ∃ (q : Pt) (qc : Int) (g : Nat),
    (∀ Ad B W rb S, Col B W rb s S → Env3 W Ad → Calls Tryd.prog 24 #[.pointer (some ⟨rb, 0, none⟩), .int .i64 i] W fun e W' => ∃ fv, e = .returned (.tuple #[q.val qc, fv]) ∧ FE Ad W' fv g ∧ Below W.heap.size W W') ∧
    (∀ B W ub U, Rer B W ub s U → Calls Tryd.prog 25 #[.pointer (some ⟨ub, 0, none⟩), .int .i64 i] W fun e W' => e = .returned (.tuple #[q.val qc, .int .i64 (g : Int)]) ∧ Below W.heap.size W W') := by
  cases hr : rowAt s.rows i with
  | none =>
    refine ⟨Pt.zero, 0, 7, fun Ad B W rb S hc hE => ?_, fun B W ub U hu => ?_⟩
    · refine (col_rownone Ad hc hE i hi hr).mono ?_
      rintro e w ⟨t, q, rfl, he, hb⟩
      exact ⟨_, rfl, .inr ⟨.inr rfl, 1, he, by omega⟩, hb⟩
    · obtain ⟨lv, h3, h4⟩ := hu
      exact rrow_none h3 i hr
  | some r =>
    obtain ⟨n, rfl, hn, hp⟩ := rowAt_some hr
    refine ⟨r, s.comp, 0, fun Ad B W rb S hc hE => ?_, fun B W ub U hu => ?_⟩
    · refine (col_row hc n r hp).mono ?_
      rintro e w ⟨rfl, hb⟩
      exact ⟨_, rfl, .inl ⟨rfl, rfl⟩, hb⟩
    · obtain ⟨lv, h3, h4⟩ := hu
      exact rrow_some h3 n r hp
end Go.Proofs.YtpglanlpnapddaaDoor
