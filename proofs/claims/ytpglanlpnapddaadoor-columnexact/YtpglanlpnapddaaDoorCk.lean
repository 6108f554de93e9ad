/- A column by its blocks; errors.Is of what it tells; awake. -/
import Derived.Test.YtpglanlpnapddaaDoorCj
namespace Go.Proofs.YtpglanlpnapddaaDoor
open Go.RowKit Go.Shelf Go.Maps
/-- A column whose blocks are S. -/
def Col (B : Nat) (W : World) (rb : Nat) (s : CS) (S : Nat → Prop) : Prop := ∃ mb sv, Cl B W rb mb sv s ∧ ∀ k, S k ↔ Ft rb mb sv k
section
variable {B : Nat} {W W' : World} {rb : Nat} {s : CS} {S : Nat → Prop}
theorem Col.kept {T : Nat → Prop} (h : Col B W rb s S) (hs : St T W W') (hd : ∀ k, S k → ¬ T k) : Col B W' rb s S := by
  obtain ⟨mb, sv, h1, h2⟩ := h
  exact ⟨mb, sv, h1.kept hs fun k hk => hd k ((h2 k).2 hk), h2⟩
theorem Col.later (h : Col B W rb s S) (hb : Below W.heap.size W W') : Col B W' rb s S := h.kept (T := fun _ => False) (St.of_below hb) fun _ _ q => q
theorem Col.lt (h : Col B W rb s S) (k : Nat) (hk : S k) : B ≤ k ∧ k < W.heap.size := by
  obtain ⟨mb, sv, h1, h2⟩ := h
  exact h1.lt k ((h2 k).1 hk)
theorem Col.ok (h : Col B W rb s S) : s.ok := by obtain ⟨mb, sv, h1, h2⟩ := h; exact h1.ok
theorem Col.small (h : Col B W rb s S) : s.rows.length ≤ 1000 := by obtain ⟨mb, sv, h1, h2⟩ := h; exact h1.small
theorem Col.base (h : Col B W rb s S) : B ≤ W.heap.size := by obtain ⟨mb, sv, h1, h2⟩ := h; exact h1.base
theorem Col.below (h : Col B W rb s S) (hs : St S W W') : Below B W W' := hs.below (fun k hk => (h.lt k hk).1) h.base
theorem col_new (W : World) (c : Int) (w : Nat) (h0 : 0 ≤ c) (h1 : c ≤ 15) (hw0 : 1 ≤ w) (hw : w ≤ 4) :
    Calls Tryd.prog 8 #[.int .i64 c, .int .i64 (w : Int)] W fun e W' => ∃ rb S, e = .returned (.tuple #[.pointer (some ⟨rb, 0, none⟩), .nilIface]) ∧ Col W.heap.size W' rb ⟨c, w, []⟩ S ∧ Below W.heap.size W W' := by
  refine (new_some W c w h0 h1 hw0 hw).mono ?_
  rintro e w1 ⟨rfl, h, hb⟩
  exact ⟨_, _, rfl, ⟨_, _, h, fun _ => Iff.rfl⟩, hb⟩
theorem col_push (h : Col B W rb s S) (p : Pt) (hf : p.fitB s.w = true) (ht : I64 p.t) (hsm : s.rows.length < 1000) :
    Calls Tryd.prog 11 #[.pointer (some ⟨rb, 0, none⟩), p.val s.comp] W fun e W' => e = .returned (.tuple #[.int .i64 (s.rows.length : Int), .nilIface]) ∧ ∃ S', Col B W' rb ⟨s.comp, s.w, s.rows ++ [p]⟩ S' ∧ St S W W' ∧ ∀ x, S' x → S x ∨ W.heap.size ≤ x := by
  obtain ⟨mb, sv, h1, h2⟩ := h
  refine (push_ok h1 p hf ht hsm).mono ?_
  rintro e w ⟨rfl, sv', h3, h4, h5⟩
  refine ⟨rfl, _, ⟨mb, sv', h3, fun _ => Iff.rfl⟩, ⟨h5.os, h5.tape, h5.output, h5.size, fun k hk hn => h5.block k hk fun q => hn ((h2 k).2 q)⟩, fun x hx => ?_⟩
  rcases hx with hx | hx | hx
  · exact .inl ((h2 x).2 (.inl hx))
  · exact .inl ((h2 x).2 (.inr (.inl hx)))
  · rcases h4 with h4 | ⟨y, h4, h6⟩
    · exact .inl ((h2 x).2 (.inr (.inr (h4 ▸ hx))))
    · rw [h4] at hx; simp at hx; exact .inr (by omega)
theorem col_pushbad (Ad : Nat → Addr) (h : Col B W rb s S) (hE : Env3 W Ad) (cm : Int) (p : Pt) (hc : cm ≠ s.comp ∨ p.fitB s.w = false) :
    Calls Tryd.prog 11 #[.pointer (some ⟨rb, 0, none⟩), p.val cm] W fun e W' => ∃ t q, e = .returned (.tuple #[.int .i64 0, .iface t q]) ∧ Err Ad W' (.iface t q) 1 2 ∧ Below W.heap.size W W' := by
  obtain ⟨mb, sv, h1, h2⟩ := h
  exact push_bad Ad h1 hE cm p hc
theorem col_row (h : Col B W rb s S) (n : Nat) (p : Pt) (hp : s.rows[n]? = some p) :
    Calls Tryd.prog 24 #[.pointer (some ⟨rb, 0, none⟩), .int .i64 (n : Int)] W fun e W' => e = .returned (.tuple #[p.val s.comp, .nilIface]) ∧ Below W.heap.size W W' := by
  obtain ⟨mb, sv, h1, h2⟩ := h
  exact row_some h1 n p hp
theorem col_rownone (Ad : Nat → Addr) (h : Col B W rb s S) (hE : Env3 W Ad) (i : Int) (hi : I64 i) (hr : rowAt s.rows i = none) :
    Calls Tryd.prog 24 #[.pointer (some ⟨rb, 0, none⟩), .int .i64 i] W fun e W' => ∃ t q, e = .returned (.tuple #[.agg #[.int .i64 0, .int .i64 0, .int .i64 0, .int .i64 0, .int .i64 0, .int .i64 0], .iface t q]) ∧ Err Ad W' (.iface t q) 7 1 ∧ Below W.heap.size W W' := by
  obtain ⟨mb, sv, h1, h2⟩ := h
  exact row_none Ad h1 hE i hi hr
theorem col_take (h : Col B W rb s S) (n : Nat) (p : Pt) (hp : s.rows[n]? = some p) (pl : Pt) (hpl : s.rows[s.rows.length - 1]? = some pl) :
    Calls Tryd.prog 17 #[.pointer (some ⟨rb, 0, none⟩), .int .i64 (n : Int)] W fun e W' => e = .returned (.tuple #[p.val s.comp, .nilIface]) ∧ Col B W' rb (s.taken n pl) S ∧ St S W W' := by
  obtain ⟨mb, sv, h1, h2⟩ := h
  refine (take_ok h1 n p hp pl hpl).mono ?_
  rintro e w ⟨rfl, sv', h3, h4, h5⟩
  refine ⟨rfl, ⟨mb, sv', h3, fun k => ?_⟩, ⟨h5.os, h5.tape, h5.output, h5.size, fun k hk hn => h5.block k hk fun q => hn ((h2 k).2 q)⟩⟩
  rw [h2 k]
  unfold Ft
  rw [h4]
theorem col_takenone (Ad : Nat → Addr) (h : Col B W rb s S) (hE : Env3 W Ad) (i : Int) (hi : I64 i) (hr : rowAt s.rows i = none) :
    Calls Tryd.prog 17 #[.pointer (some ⟨rb, 0, none⟩), .int .i64 i] W fun e W' => ∃ t q, e = .returned (.tuple #[.agg #[.int .i64 0, .int .i64 0, .int .i64 0, .int .i64 0, .int .i64 0, .int .i64 0], .iface t q]) ∧ Err Ad W' (.iface t q) 7 2 ∧ Below W.heap.size W W' := by
  obtain ⟨mb, sv, h1, h2⟩ := h
  exact take_none Ad h1 hE i hi hr
theorem col_len (h : Col B W rb s S) : Calls Tryd.prog 20 #[.pointer (some ⟨rb, 0, none⟩)] W fun e W' => e = .returned (.int .i64 (s.rows.length : Int)) ∧ W' = W := by
  obtain ⟨mb, sv, h1, h2⟩ := h
  exact len_any h1
theorem col_since (h : Col B W rb s S) (f : Int) : Calls Tryd.prog 22 #[.pointer (some ⟨rb, 0, none⟩), .int .i64 f] W fun e W' => ∃ v, e = .returned v ∧ Ints W.heap.size W' v (since s.rows f s.rows.length) ∧ Below W.heap.size W W' := by
  obtain ⟨mb, sv, h1, h2⟩ := h
  exact since_any h1 f
end
theorem Env3.same {w : World} {Ad : Nat → Addr} (h : Env3 w Ad) {p k : Nat} (hp : p ∈ three) (hk : k ∈ three) : decide (Ad p = Ad k) = decide (p = k) := by
  by_cases e : p = k
  · subst e; simp
  · have : Ad p ≠ Ad k := fun h' => e (h.inj p hp k hk h')
    simp [e, this]
theorem is_err (Ad : Nat → Addr) {W : World} {v : Value} {p k d : Nat} (hE : Env3 W Ad) (h : Err Ad W v p d) (hp : p ∈ three) (hk : k ∈ three) :
    Calls Tryd.prog 10 #[v, .iface 105 (.pointer (some (Ad k)))] W fun e W' => e = .returned (.bool (decide (p = k))) ∧ Below W.heap.size W W' := by
  obtain ⟨ws, h⟩ := h
  obtain ⟨t, q, rfl, -⟩ := h.1.shape
  refine is_by Ad k t q _ W ((eis_gen Ad W.heap.size k W ws _ p (hE.sen p hp) (hE.sen k hk) (hE.same hp hk) h.1).mono ?_)
  rintro e w' ⟨rfl, rfl⟩
  exact ⟨rfl, Below.refl _ _⟩
theorem ints_one (W : World) (k : Nat) : Ints W.heap.size (W.alloc (.cells #[.int .i64 (k : Int)] 3)) (.slice (some ⟨W.heap.size, 0, none⟩) 1 1) [k] :=
  ⟨rfl, .inr ⟨W.heap.size, 1, #[.int .i64 (k : Int)], rfl, Nat.le_refl _, heap_alloc_new W _, Nat.le_refl _, by unfold maxLen; omega, rfl, rfl⟩⟩
theorem balloc {w0 W : World} (h : Below w0.heap.size w0 W) (o : Obj) : Below w0.heap.size w0 (W.alloc o) := h.alloc h.size o
def p3 (n : Int) : Pt := ⟨n, 0, 0, 0, n⟩
set_option maxHeartbeats 6400000 in
set_option maxRecDepth 100000 in
theorem awake_any (w : World) (Ad : Nat → Addr) (hE : Env3 w Ad) :
    Calls Tryd.prog 7 #[] w fun e w' => e = .returned (.bool true) ∧ Below w.heap.size w w' := by
  have HE := hid hE
  clear hE
  have N : Hid (Calls Tryd.prog 8 #[.int .i64 3, .int .i64 2] w fun e W' => ∃ rb S, e = .returned (.tuple #[.pointer (some ⟨rb, 0, none⟩), .nilIface]) ∧ Col w.heap.size W' rb ⟨3, 2, []⟩ S ∧ Below w.heap.size w W') := col_new w 3 2 (by decide) (by decide) (by decide) (by decide)
  have RL := hid row_law
  go_enter Tryd.func7, Tryd.ntmps7
  go_wp2_with fail
  refine N.out.mono ?_
  rintro e w1 ⟨rb, S, rfl, h1, b1⟩
  have Q1 := hid h1
  have B1 := hid b1
  clear N h1 b1
  go_wp2_with fail
  refine (RL.out _ _).mono ?_
  rintro e w2 ⟨rfl, b2⟩
  have Q2 := hid (Q1.out.later b2)
  have B2 := hid (B1.out.trans (b2.mono B1.out.size))
  have P2 : Hid (Calls Tryd.prog 11 #[.pointer (some ⟨rb, 0, none⟩), .agg #[.int .i64 3, .int .i64 1, .int .i64 0, .int .i64 0, .int .i64 0, .int .i64 1]] w2 fun e W' => e = .returned (.tuple #[.int .i64 0, .nilIface]) ∧ ∃ S', Col w.heap.size W' rb ⟨3, 2, [p3 1]⟩ S' ∧ St S w2 W' ∧ ∀ x, S' x → S x ∨ w2.heap.size ≤ x) := col_push Q2.out (p3 1) rfl (I64_mid (by decide) (by decide)) (by decide)
  clear b2 Q1 B1
  go_wp2_with fail
  refine P2.out.mono ?_
  rintro e w3 ⟨rfl, S3, h3, s3, -⟩
  have Q3 := hid h3
  have B3 := hid (B2.out.trans (Q2.out.below s3))
  clear P2 h3 s3 Q2 B2
  go_wp2_with fail
  refine (RL.out _ _).mono ?_
  rintro e w4 ⟨rfl, b4⟩
  have Q4 := hid (Q3.out.later b4)
  have B4 := hid (B3.out.trans (b4.mono B3.out.size))
  have P4 : Hid (Calls Tryd.prog 11 #[.pointer (some ⟨rb, 0, none⟩), .agg #[.int .i64 3, .int .i64 2, .int .i64 0, .int .i64 0, .int .i64 0, .int .i64 2]] w4 fun e W' => e = .returned (.tuple #[.int .i64 1, .nilIface]) ∧ ∃ S', Col w.heap.size W' rb ⟨3, 2, [p3 1, p3 2]⟩ S' ∧ St S3 w4 W' ∧ ∀ x, S' x → S3 x ∨ w4.heap.size ≤ x) := col_push Q4.out (p3 2) rfl (I64_mid (by decide) (by decide)) (by decide)
  clear b4 Q3 B3
  go_wp2_with fail
  refine P4.out.mono ?_
  rintro e w5 ⟨rfl, S5, h5, s5, -⟩
  have Q5 := hid h5
  have B5 := hid (B4.out.trans (Q4.out.below s5))
  clear P4 h5 s5 Q4 B4
  go_wp2_with fail
  refine (RL.out _ _).mono ?_
  rintro e w6 ⟨rfl, b6⟩
  have Q6 := hid (Q5.out.later b6)
  have B6 := hid (B5.out.trans (b6.mono B5.out.size))
  have P6 : Hid (Calls Tryd.prog 11 #[.pointer (some ⟨rb, 0, none⟩), .agg #[.int .i64 3, .int .i64 3, .int .i64 0, .int .i64 0, .int .i64 0, .int .i64 3]] w6 fun e W' => e = .returned (.tuple #[.int .i64 2, .nilIface]) ∧ ∃ S', Col w.heap.size W' rb ⟨3, 2, [p3 1, p3 2, p3 3]⟩ S' ∧ St S5 w6 W' ∧ ∀ x, S' x → S5 x ∨ w6.heap.size ≤ x) := col_push Q6.out (p3 3) rfl (I64_mid (by decide) (by decide)) (by decide)
  clear b6 Q5 B5
  go_wp2_with fail
  refine P6.out.mono ?_
  rintro e w7 ⟨rfl, S7, h7, s7, -⟩
  have Q7 := hid h7
  have B7 := hid (B6.out.trans (Q6.out.below s7))
  have T7 : Hid (Calls Tryd.prog 17 #[.pointer (some ⟨rb, 0, none⟩), .int .i64 0] w7 fun e W' => e = .returned (.tuple #[.agg #[.int .i64 3, .int .i64 1, .int .i64 0, .int .i64 0, .int .i64 0, .int .i64 1], .nilIface]) ∧ Col w.heap.size W' rb ⟨3, 2, [p3 3, p3 2]⟩ S7 ∧ St S7 w7 W') := col_take h7 0 (p3 1) rfl (p3 3) rfl
  clear P6 h7 s7 Q6 B6
  go_wp2_with fail
  refine T7.out.mono ?_
  rintro e w8 ⟨rfl, h8, s8⟩
  have b8 := B7.out.trans (Q7.out.below s8)
  have X8 := hid (heap_alloc_new w8 (.cells #[.int .i64 3, .int .i64 1, .int .i64 0, .int .i64 0, .int .i64 0, .int .i64 1] 34))
  have Q8 := hid (h8.later (bAl w8 (.cells #[.int .i64 3, .int .i64 1, .int .i64 0, .int .i64 0, .int .i64 0, .int .i64 1] 34)))
  have B8 := hid (b8.trans ((bAl w8 (.cells #[.int .i64 3, .int .i64 1, .int .i64 0, .int .i64 0, .int .i64 0, .int .i64 1] 34)).mono b8.size))
  have R8 : Hid (Calls Tryd.prog 24 #[.pointer (some ⟨rb, 0, none⟩), .int .i64 0] (w8.alloc (.cells #[.int .i64 3, .int .i64 1, .int .i64 0, .int .i64 0, .int .i64 0, .int .i64 1] 34)) fun e W' => e = .returned (.tuple #[.agg #[.int .i64 3, .int .i64 3, .int .i64 0, .int .i64 0, .int .i64 0, .int .i64 3], .nilIface]) ∧ Below (w8.alloc (.cells #[.int .i64 3, .int .i64 1, .int .i64 0, .int .i64 0, .int .i64 0, .int .i64 1] 34)).heap.size (w8.alloc (.cells #[.int .i64 3, .int .i64 1, .int .i64 0, .int .i64 0, .int .i64 0, .int .i64 1] 34)) W') := col_row Q8.out 0 (p3 3) rfl
  clear T7 h8 s8 b8 Q7 B7
  go_wp2_with fail
  refine R8.out.mono ?_
  rintro e w9 ⟨rfl, b9⟩
  have c9 := b9.trans ((bAl w9 (.cells #[.int .i64 3, .int .i64 3, .int .i64 0, .int .i64 0, .int .i64 0, .int .i64 3] 34)).mono b9.size)
  have X9 := hid (blk_seen c9 (Nat.le_refl _) X8.out)
  have Y9 := hid (heap_alloc_new w9 (.cells #[.int .i64 3, .int .i64 3, .int .i64 0, .int .i64 0, .int .i64 0, .int .i64 3] 34))
  have Q9 := hid (Q8.out.later c9)
  have B9 := hid (B8.out.trans (c9.mono B8.out.size))
  have R9 := hid (col_rownone Ad Q9.out (HE.out.later B9.out) 2 (I64_mid (by decide) (by decide)) rfl)
  clear R8 b9 c9 X8 Q8 B8
  go_wp2_with fail
  refine R9.out.mono ?_
  rintro e w10 ⟨t10, q10, rfl, v10, b10⟩
  have c10 := b10.trans ((bAl w10 (.cells #[.int .i64 0, .int .i64 0, .int .i64 0, .int .i64 0, .int .i64 0, .int .i64 0] 34)).mono b10.size)
  have X10 := hid (blk_seen c10 (Nat.le_refl _) X9.out)
  have Y10 := hid (blk_seen c10 (Nat.le_refl _) Y9.out)
  have V10 := hid (v10.later (bAl w10 (.cells #[.int .i64 0, .int .i64 0, .int .i64 0, .int .i64 0, .int .i64 0, .int .i64 0] 34)))
  have Q10 := hid (Q9.out.later c10)
  have B10 := hid (B9.out.trans (c10.mono B9.out.size))
  have P10 := hid (col_pushbad Ad Q10.out (HE.out.later B10.out) 3 ⟨0, 0, 1, 0, 0⟩ (.inr rfl))
  unfold Pt.val at P10
  clear R9 v10 b10 c10 X9 Y9 Q9 B9
  go_wp2_with fail
  refine P10.out.mono ?_
  rintro e w11 ⟨t11, q11, rfl, v11, b11⟩
  have X11 := hid (blk_seen b11 (Nat.le_refl _) X10.out)
  have Y11 := hid (blk_seen b11 (Nat.le_refl _) Y10.out)
  have V11 := hid v11
  have U11 := hid (V10.out.later b11)
  have Q11 := hid (Q10.out.later b11)
  have B11 := hid (B10.out.trans (b11.mono B10.out.size))
  clear P10 v11 b11 X10 Y10 V10 Q10 B10
  have KK : Hid (∀ W', Below w11.heap.size w11 W' → W'.cell? ⟨w8.heap.size, 0, none⟩ = some (.int .i64 3) ∧ W'.cell? ⟨w8.heap.size, 1, none⟩ = some (.int .i64 1) ∧ W'.cell? ⟨w8.heap.size, 2, none⟩ = some (.int .i64 0) ∧ W'.cell? ⟨w8.heap.size, 3, none⟩ = some (.int .i64 0) ∧ W'.cell? ⟨w8.heap.size, 4, none⟩ = some (.int .i64 0) ∧ W'.cell? ⟨w8.heap.size, 5, none⟩ = some (.int .i64 1) ∧ W'.cell? ⟨w9.heap.size, 0, none⟩ = some (.int .i64 3) ∧ W'.cell? ⟨w9.heap.size, 1, none⟩ = some (.int .i64 3) ∧ W'.cell? ⟨w9.heap.size, 2, none⟩ = some (.int .i64 0) ∧ W'.cell? ⟨w9.heap.size, 3, none⟩ = some (.int .i64 0) ∧ W'.cell? ⟨w9.heap.size, 4, none⟩ = some (.int .i64 0) ∧ W'.cell? ⟨w9.heap.size, 5, none⟩ = some (.int .i64 3) ∧ W'.cell? ⟨0, 0, none⟩ = some (.iface 105 (.pointer (some (Ad 1)))) ∧ W'.cell? ⟨1, 0, none⟩ = some (.iface 105 (.pointer (some (Ad 7))))) := by
    intro W' hb
    have a := blk_seen hb (Nat.le_refl _) X11.out
    have b := blk_seen hb (Nat.le_refl _) Y11.out
    have e := HE.out.later (B11.out.trans (hb.mono B11.out.size))
    exact ⟨cell_blk a rfl, cell_blk a rfl, cell_blk a rfl, cell_blk a rfl, cell_blk a rfl, cell_blk a rfl, cell_blk b rfl, cell_blk b rfl, cell_blk b rfl, cell_blk b rfl, cell_blk b rfl, cell_blk b rfl, e.c1, e.c7⟩
  have EE : Hid (∀ W', Below w11.heap.size w11 W' → Env3 W' Ad) := fun W' hb => HE.out.later (B11.out.trans (hb.mono B11.out.size))
  have I7 : Hid (∀ W', Below w11.heap.size w11 W' → Calls Tryd.prog 10 #[.iface t10 q10, .iface 105 (.pointer (some (Ad 7)))] W' fun e w' => e = .returned (.bool true) ∧ Below w11.heap.size w11 w') := fun W' hb =>
    (is_err Ad (EE.out W' hb) (U11.out.later hb) (by decide) (by decide)).mono fun e w' ⟨he, h⟩ => ⟨he, hb.trans (h.mono hb.size)⟩
  have I1 : Hid (∀ W', Below w11.heap.size w11 W' → Calls Tryd.prog 10 #[.iface t11 q11, .iface 105 (.pointer (some (Ad 1)))] W' fun e w' => e = .returned (.bool true) ∧ Below w11.heap.size w11 w') := fun W' hb =>
    (is_err Ad (EE.out W' hb) (V11.out.later hb) (by decide) (by decide)).mono fun e w' ⟨he, h⟩ => ⟨he, hb.trans (h.mono hb.size)⟩
  have RW : Hid (∀ n W', Below w11.heap.size w11 W' → Calls Tryd.prog 26 #[.int .i64 n] W' fun e w' => e = .returned (.agg #[.int .i64 3, .int .i64 n, .int .i64 0, .int .i64 0, .int .i64 0, .int .i64 n]) ∧ Below w11.heap.size w11 w') := fun n W' hb =>
    (row_law n W').mono fun e w' ⟨he, h⟩ => ⟨he, hb.trans (h.mono hb.size)⟩
  have SC : Hid (∀ W', Below w11.heap.size w11 W' → Calls Tryd.prog 22 #[.pointer (some ⟨rb, 0, none⟩), .int .i64 3] W' fun e w' => ∃ a c, e = .returned (.slice a 1 c) ∧ Ints w11.heap.size w' (.slice a 1 c) [0] ∧ Below w11.heap.size w11 w' ∧ Below W'.heap.size W' w') := fun W' hb =>
    (col_since (Q11.out.later hb) 3).mono fun e w' ⟨v, he, hi, h⟩ => by
      have hi : Ints W'.heap.size w' v [0] := hi
      obtain ⟨a, c, rfl⟩ := hi.slice
      refine ⟨a, c, he, ⟨hi.1, hi.2.elim .inl fun ⟨g, cap, cur, h1, h2, h3⟩ => .inr ⟨g, cap, cur, h1, Nat.le_trans hb.size h2, h3⟩⟩, hb.trans (h.mono hb.size), h⟩
  have SM : Hid (∀ W' v u, Ints w11.heap.size W' v [0] → Ints w11.heap.size W' u [0] → Below w11.heap.size w11 W' → Calls Tryd.prog 21 #[v, u] W' fun e w' => e = .returned (.bool true) ∧ Below w11.heap.size w11 w') := fun W' v u h1 h2 hb =>
    (same_any h1 h2 (by decide)).mono fun e w' ⟨he, h⟩ => ⟨he, hb.trans (h.mono hb.size)⟩
  have IO : Hid (∀ W', Below w11.heap.size w11 W' → Ints w11.heap.size (W'.alloc (.cells #[.int .i64 0] 3)) (.slice (some ⟨W'.heap.size, 0, none⟩) 1 1) [0]) := fun W' hb => by
    have hi := ints_one W' 0
    exact ⟨hi.1, hi.2.elim .inl fun ⟨g, cap, cur, h1, h2, h3⟩ => .inr ⟨g, cap, cur, h1, Nat.le_trans hb.size h2, h3⟩⟩
  have q1 := eqlP
  clear X11 Y11 V11 U11 RL
  go_wp2_with fail
  go_region_held3 (fun W' => W'.cell? ⟨w8.heap.size, 0, none⟩ = some (.int .i64 3) ∧ W'.cell? ⟨w8.heap.size, 1, none⟩ = some (.int .i64 1) ∧ W'.cell? ⟨w8.heap.size, 2, none⟩ = some (.int .i64 0) ∧ W'.cell? ⟨w8.heap.size, 3, none⟩ = some (.int .i64 0) ∧ W'.cell? ⟨w8.heap.size, 4, none⟩ = some (.int .i64 0) ∧ W'.cell? ⟨w8.heap.size, 5, none⟩ = some (.int .i64 1) ∧ W'.cell? ⟨w9.heap.size, 0, none⟩ = some (.int .i64 3) ∧ W'.cell? ⟨w9.heap.size, 1, none⟩ = some (.int .i64 3) ∧ W'.cell? ⟨w9.heap.size, 2, none⟩ = some (.int .i64 0) ∧ W'.cell? ⟨w9.heap.size, 3, none⟩ = some (.int .i64 0) ∧ W'.cell? ⟨w9.heap.size, 4, none⟩ = some (.int .i64 0) ∧ W'.cell? ⟨w9.heap.size, 5, none⟩ = some (.int .i64 3) ∧ W'.cell? ⟨0, 0, none⟩ = some (.iface 105 (.pointer (some (Ad 1)))) ∧ W'.cell? ⟨1, 0, none⟩ = some (.iface 105 (.pointer (some (Ad 7)))))
    (first | exact KK.out _ (by assumption) | exact KK.out _ (Below.refl _ _).drew | exact KK.out _ (balloc (by assumption) _))
    (first
      | (go_at_call_of 10 (Ad 7); refine (I7.out _ (by first | assumption | exact (Below.refl _ _).drew)).mono ?_; rintro e w12 ⟨rfl, hb12⟩)
      | (go_at_call_of 10 (Ad 1); refine (I1.out _ (by first | assumption | exact (Below.refl _ _).drew)).mono ?_; rintro e w12 ⟨rfl, hb12⟩)
      | (go_at_call 26; refine (RW.out _ _ (by first | assumption | exact (Below.refl _ _).drew)).mono ?_; rintro e w12 ⟨rfl, hb12⟩)
      | (go_at_call 22; refine (SC.out _ (by first | assumption | exact (Below.refl _ _).drew | exact balloc (by assumption) _)).mono ?_; rintro e w14 ⟨a14, c14, rfl, hi14, hb14, hr14⟩; try (have hio := (IO.out _ (by assumption)).later hr14); clear hr14)
      | (go_at_call 21; refine (SM.out _ _ _ (by first | assumption | exact Ints.later (by assumption) (bAl _ _)) (by first | assumption | exact IO.out _ (by assumption)) (by first | assumption | exact balloc (by assumption) _)).mono ?_; rintro e w13 ⟨rfl, hb13⟩))
  all_goals
    have BF := hid (B11.out.trans (hb13.mono B11.out.size))
    clear KK EE I7 I1 RW SC SM IO q1
    go_wp2_with fail
    go_ret
    exact ⟨rfl, BF.out⟩
end Go.Proofs.YtpglanlpnapddaaDoor
