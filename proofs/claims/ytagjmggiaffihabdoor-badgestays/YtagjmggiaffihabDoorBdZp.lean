/- What every proof of this seat uses: the door's own heap meets the rows' list; what comes in, read. -/
import Derived.Test.YtagjmggiaffihabDoorBdBn
import Derived.Test.YtagjmggiaffihabDoorCards
import Derived.Test.YtagjmggiaffihabDoorTie
import Derived.ProofKit
import Derived.LaidMore
import Derived.OpenShut
import Derived.Deep.Grids
import Derived.SevenTiedAt
import Derived.ChangeMaps5
import Derived.Stop.Joined
import Derived.Stop.LaidErr
import Derived.Stop.LaidTwo
namespace Go.Proofs.YtagjmggiaffihabDoor
open Go.ChangeShapes Go.WideShapes Go.ChangeAt Go.RowKit Go.Shelf
open Go.Proofs.YtagjmggiaffihabDoor.Bd (five Env5 I64)
theorem door_met5 (os : Os) (args : Array Value) : laidMetH Tryd.prog Rows.badgeOnceRow.laid ((World.doorLaid Tryd.prog 104 os).forCall (fun _ _ => 0) ⟨#[], args, []⟩).memory :=
  laidMetH_of_parts3 (fuel := 8) (laidMet_of_run' 8 (by kernel_rfl) (by kernel_rfl)) (by kernel_rfl) (by kernel_rfl)
theorem Tryd.own : ownKnob Tryd.prog.godebug = none := by kernel_rfl
theorem Tryd.laidOut : laidOutB Tryd.prog = true := by kernel_rfl
theorem kl_cellsS : Tryd.prog.cellsOf 135 = 1 := by kernel_rfl
theorem kl_cells9 : Tryd.prog.cellsOf 9 = 1 := by kernel_rfl
theorem kl_star : "*" ++ "errors.errorString" = "*errors.errorString" := by decide
theorem kl_row (u : TypeId) (h : Tryd.prog.typeName? 3 u = some "*errors.errorString") : u = 111 :=
  typeName_ptr_named (nm := "errors.errorString") (by rw [kl_star]; kernel_rfl) (by kernel_rfl) (by decide) u (by rw [kl_star]; exact h)
theorem kl_g1 : Tryd.prog.globalNamed "pasodoble/api.ErrArg" = some 1 := by kernel_rfl
theorem kl_t1 : (Tryd.prog.globals[1]?).map (·.type) = some 31 := by kernel_rfl
theorem kl_g2 : Tryd.prog.globalNamed "pasodoble/api.ErrNil" = some 2 := by kernel_rfl
theorem kl_t2 : (Tryd.prog.globals[2]?).map (·.type) = some 31 := by kernel_rfl
theorem kl_g6 : Tryd.prog.globalNamed "pasodoble/api.ErrFull" = some 3 := by kernel_rfl
theorem kl_t6 : (Tryd.prog.globals[3]?).map (·.type) = some 31 := by kernel_rfl
theorem kl_g7 : Tryd.prog.globalNamed "pasodoble/api.ErrNone" = some 4 := by kernel_rfl
theorem kl_t7 : (Tryd.prog.globals[4]?).map (·.type) = some 31 := by kernel_rfl
theorem kl_g9 : Tryd.prog.globalNamed "pasodoble/api.ErrTwice" = some 0 := by kernel_rfl
theorem kl_t9 : (Tryd.prog.globals[0]?).map (·.type) = some 31 := by kernel_rfl
/-- What is known of one sentinel. -/
def OneK (W : World) (g : Nat) (t : List UInt8) (a : Addr) : Prop := W.cell? ⟨g, 0, none⟩ = some (.iface 111 (.pointer (some a))) ∧ SenK W a ∧ ∃ s : ByteArray, W.cell? a = some (.string s) ∧ s.data.toList = t
theorem two_of {n0 n1 : String} {text0 text1 : List UInt8} {r : List (String × DataW Unit)} {W : World} {g0 g1 : Nat}
    (h : laidMet Tryd.prog ((n0, .iface "*errors.errorString" (.ptr (.agg [.lit (.string text0)]))) :: (n1, .iface "*errors.errorString" (.ptr (.agg [.lit (.string text1)]))) :: r) W)
    (hg0 : Tryd.prog.globalNamed n0 = some g0) (ht0 : (Tryd.prog.globals[g0]?).map (·.type) = some 31) (hg1 : Tryd.prog.globalNamed n1 = some g1) (ht1 : (Tryd.prog.globals[g1]?).map (·.type) = some 31) : (∃ a, OneK W g0 text0 a) ∧ ∃ a, OneK W g1 text1 a := by
  obtain ⟨a0, a1, s0, s1, c0, c1, t0, t1, v0, v1, e0, x0, _, e1, x1, _, _, b0, b1⟩ := laid_sentinels2 h hg0 ht0 hg1 ht1 Tryd.underlying31 kl_row Tryd.underlying111 Tryd.underlying135 rfl rfl Tryd.underlying9 kl_cellsS kl_cells9
  exact ⟨⟨a0, World.var?_cell hg0 v0 0, ⟨c0, t0, b0⟩, s0, e0, x0⟩, a1, World.var?_cell hg1 v1 0, ⟨c1, t1, b1⟩, s1, e1, x1⟩
theorem ne_of_text {W : World} {g g' : Nat} {t t' : List UInt8} {a a' : Addr} (h : OneK W g t a) (h' : OneK W g' t' a') (hne : t ≠ t') : a ≠ a' := fun e => by
  obtain ⟨_, _, s, c, x⟩ := h
  obtain ⟨_, _, s', c', x'⟩ := h'
  rw [e, c'] at c
  simp only [Option.some.injEq, Value.string.injEq] at c
  rw [← c, x'] at x
  exact hne x.symm
def ad5 (a1 a2 a6 a7 a9 : Addr) (k : Nat) : Addr := if k = 1 then a1 else if k = 2 then a2 else if k = 6 then a6 else if k = 7 then a7 else a9
theorem env5_of {W : World} (h : laidMetH Tryd.prog Rows.badgeOnceRow.laid W) : ∃ Ad, Env5 W Ad := by
  rw [MakeChecks.laidMetH_plain _ _ _ (by kernel_rfl)] at h
  have h' : laidMet Tryd.prog [("pasodoble/api.ErrArg", Rows.laid_pasodoble_api_ErrArg), ("pasodoble/api.ErrNil", Rows.laid_pasodoble_api_ErrNil), ("pasodoble/api.ErrFull", Rows.laid_pasodoble_api_ErrFull), ("pasodoble/api.ErrNone", Rows.laid_pasodoble_api_ErrNone), ("pasodoble/api.ErrTwice", Rows.laid_pasodoble_api_ErrTwice)] W := h
  obtain ⟨⟨a1, h1⟩, a2, h2⟩ := two_of h' kl_g1 kl_t1 kl_g2 kl_t2
  obtain ⟨⟨a6, h6⟩, a7, h7⟩ := two_of h'.tail.tail kl_g6 kl_t6 kl_g7 kl_t7
  obtain ⟨-, a9, h9⟩ := two_of h'.tail.tail.tail kl_g7 kl_t7 kl_g9 kl_t9
  have n12 := ne_of_text h1 h2 (by decide)
  have n16 := ne_of_text h1 h6 (by decide)
  have n17 := ne_of_text h1 h7 (by decide)
  have n19 := ne_of_text h1 h9 (by decide)
  have n26 := ne_of_text h2 h6 (by decide)
  have n27 := ne_of_text h2 h7 (by decide)
  have n29 := ne_of_text h2 h9 (by decide)
  have n67 := ne_of_text h6 h7 (by decide)
  have n69 := ne_of_text h6 h9 (by decide)
  have n79 := ne_of_text h7 h9 (by decide)
  have F : ∀ {P : Nat → Prop}, P 1 → P 2 → P 6 → P 7 → P 9 → ∀ k ∈ five, P k := by
    intro P p1 p2 p6 p7 p9 k hk
    simp only [five, List.mem_cons, List.not_mem_nil, or_false] at hk
    rcases hk with rfl | rfl | rfl | rfl | rfl <;> assumption
  refine ⟨ad5 a1 a2 a6 a7 a9, F h1.1 h2.1 h6.1 h7.1 h9.1, F h1.2.1 h2.2.1 h6.2.1 h7.2.1 h9.2.1, ?_⟩
  refine F (F ?_ ?_ ?_ ?_ ?_) (F ?_ ?_ ?_ ?_ ?_) (F ?_ ?_ ?_ ?_ ?_) (F ?_ ?_ ?_ ?_ ?_) (F ?_ ?_ ?_ ?_ ?_)
  all_goals simp [ad5]
  all_goals first | exact n12 | exact n12.symm | exact n16 | exact n16.symm | exact n17 | exact n17.symm | exact n19 | exact n19.symm | exact n26 | exact n26.symm | exact n27 | exact n27.symm | exact n29 | exact n29.symm | exact n67 | exact n67.symm | exact n69 | exact n69.symm | exact n79 | exact n79.symm
structure ActI where
  kind : Int
  i : Int
  g : Int
  n : Int
def ActI.wf (x : ActI) : Prop := I64 x.kind ∧ I64 x.i ∧ I64 x.g ∧ I64 x.n
/-- A row of calls in memory. -/
def ActRow (W : World) (v : Value) (cl : List ActI) : Prop := ∃ a c, v = .slice a cl.length c ∧ (∀ x ∈ cl, x.wf) ∧ (cl = [] ∨ ∃ b o, a = some ⟨b, o, none⟩ ∧ ∀ (j : Nat) (x : ActI), cl[j]? = some x → W.cell? ⟨b, o + j * 4, none⟩ = some (.int .i64 x.kind) ∧ W.cell? ⟨b, o + j * 4 + 1, none⟩ = some (.int .i64 x.i) ∧ W.cell? ⟨b, o + j * 4 + 2, none⟩ = some (.int .i64 x.g) ∧ W.cell? ⟨b, o + j * 4 + 3, none⟩ = some (.int .i64 x.n))
theorem ActRow.later {W W' : World} {v : Value} {cl : List ActI} (h : ActRow W v cl) (hb : Below W.heap.size W W') : ActRow W' v cl := by
  obtain ⟨a, c, h1, h2, h3⟩ := h
  refine ⟨a, c, h1, h2, ?_⟩
  rcases h3 with h3 | ⟨b, o, h3, h4⟩
  · exact .inl h3
  · refine .inr ⟨b, o, h3, fun j x hx => ?_⟩
    obtain ⟨e0, e1, e2, e3⟩ := h4 j x hx
    exact ⟨Bd.seen hb (Nat.le_refl _) e0, Bd.seen hb (Nat.le_refl _) e1, Bd.seen hb (Nat.le_refl _) e2, Bd.seen hb (Nat.le_refl _) e3⟩
theorem cells36 : Tryd.prog.cellsOf 29 = 4 := by kernel_rfl
theorem add_plain3 (b o j : Nat) : (⟨b, o, none⟩ : Addr).add j = ⟨b, o + j, none⟩ := by unfold Addr.add; split <;> simp_all
set_option maxRecDepth 100000 in
theorem ent_of {H : Type} {enc : TypeId × Value → H} {W : World} {fuel : Nat} {cs : List Value} {x : DataW H × List MemPlace} (h : DataW.trod enc Tryd.prog W 0 (fun _ => true) true fuel 27 cs = some x) :
    ∃ i g : Int, cs = [.int .i64 i, .int .i64 g] ∧ I64 i ∧ I64 g := by
  obtain ⟨xs, n, _, _, hl, hx, hf⟩ := DataW.trod_struct Tryd.underlying27 h
  rw [Bd.cells24] at hl
  match cs, hl with
  | [c0, c1], _ =>
    have f0 := hf 0 _ rfl
    have f1 := hf 1 _ rfl
    obtain ⟨x0, h0⟩ : ∃ x0, xs[0]? = some x0 := ⟨xs[0]'(by rw [hx]; decide), List.getElem?_eq_getElem _⟩
    obtain ⟨x1, h1⟩ : ∃ x1, xs[1]? = some x1 := ⟨xs[1]'(by rw [hx]; decide), List.getElem?_eq_getElem _⟩
    have g0 : DataW.trod enc Tryd.prog W 0 (fun _ => true) true n 3 [c0] = some x0 := by rw [← h0, ← f0]; rfl
    have g1 : DataW.trod enc Tryd.prog W 0 (fun _ => true) true n 3 [c1] = some x1 := by rw [← h1, ← f1]; rfl
    obtain ⟨i, e0, _, w0⟩ := DataW.trod_int Tryd.underlying3 g0
    obtain ⟨g, e1, _, w1⟩ := DataW.trod_int Tryd.underlying3 g1
    simp at e0 e1
    exact ⟨i, g, by rw [e0, e1], w0, w1⟩
set_option maxRecDepth 100000 in
/-- One call, out of its four cells. -/
theorem act_of {H : Type} {enc : TypeId × Value → H} {W : World} {fuel : Nat} {cs : List Value} {x : DataW H × List MemPlace} (h : DataW.trod enc Tryd.prog W 0 (fun _ => true) true fuel 29 cs = some x) :
    ∃ y : ActI, cs = [.int .i64 y.kind, .int .i64 y.i, .int .i64 y.g, .int .i64 y.n] ∧ y.wf := by
  obtain ⟨xs, n, _, _, hl, hx, hf⟩ := DataW.trod_struct Tryd.underlying29 h
  rw [cells36] at hl
  match cs, hl with
  | [c0, c1, c2, c3], _ =>
    have f0 := hf 0 _ rfl
    have f1 := hf 1 _ rfl
    have f2 := hf 2 _ rfl
    obtain ⟨x0, h0⟩ : ∃ x0, xs[0]? = some x0 := ⟨xs[0]'(by rw [hx]; decide), List.getElem?_eq_getElem _⟩
    obtain ⟨x1, h1⟩ : ∃ x1, xs[1]? = some x1 := ⟨xs[1]'(by rw [hx]; decide), List.getElem?_eq_getElem _⟩
    obtain ⟨x2, h2⟩ : ∃ x2, xs[2]? = some x2 := ⟨xs[2]'(by rw [hx]; decide), List.getElem?_eq_getElem _⟩
    have g0 : DataW.trod enc Tryd.prog W 0 (fun _ => true) true n 3 [c0] = some x0 := by rw [← h0, ← f0]; rfl
    have g1 : DataW.trod enc Tryd.prog W 0 (fun _ => true) true n 27 [c1, c2] = some x1 := by rw [← h1, ← f1]; rfl
    have g2 : DataW.trod enc Tryd.prog W 0 (fun _ => true) true n 3 [c3] = some x2 := by rw [← h2, ← f2]; rfl
    obtain ⟨k, e0, _, w0⟩ := DataW.trod_int Tryd.underlying3 g0
    obtain ⟨i, g, e1, wi, wg⟩ := ent_of g1
    obtain ⟨m, e2, _, w2⟩ := DataW.trod_int Tryd.underlying3 g2
    simp at e0 e1 e2
    exact ⟨⟨k, i, g, m⟩, by rw [e0, e1.1, e1.2, e2], w0, wi, wg, w2⟩
set_option maxRecDepth 100000 in
theorem acts_of {H : Type} {enc : TypeId × Value → H} {W : World} {v : Value} {d : DataW H} {ps : List MemPlace} (h : DataW.Trod enc Tryd.prog W 0 (fun _ => true) true 22 v d ps) (hv : ∃ a l c, v = .slice a l c) :
    ∃ cl, ActRow W v cl := by
  obtain ⟨fuel, hf⟩ := h
  obtain ⟨a0, l0, c0, rfl⟩ := hv
  rcases Deep.open_slice Tryd.underlying22 hf with ⟨h1, h2⟩ | ⟨a, len, cap, m, n, D, Pl, h1, _, hl, _, hm, hx, hel⟩
  · simp [Value.cells] at h1
    obtain ⟨rfl, rfl, rfl⟩ := h1
    exact ⟨[], none, 0, rfl, by simp, .inl rfl⟩
  · simp [Value.cells] at h1
    obtain ⟨rfl, rfl, rfl⟩ := h1
    simp only [if_true] at hm
    subst hm
    rw [cells36] at hel
    haveI : Inhabited ActI := ⟨⟨0, 0, 0, 0⟩⟩
    obtain ⟨X, hX⟩ := Deep.choose_lt (α := ActI) (n := l0) (p := fun i q => W.cells? 0 (a.add (i * 4)) 4 = some [.int .i64 q.kind, .int .i64 q.i, .int .i64 q.g, .int .i64 q.n] ∧ q.wf) (fun i hi => by
      obtain ⟨cs', hc1, hc2⟩ := hel i (by omega)
      obtain ⟨y, e, hw⟩ := act_of hc2
      subst e
      exact ⟨y, hc1, hw⟩)
    refine ⟨(List.range l0).map X, some a, m, by simp, fun x hx => ?_, ?_⟩
    · obtain ⟨j, hj, rfl⟩ := List.mem_map.1 hx
      exact (hX j (by simpa using hj)).2
    by_cases h0 : l0 = 0
    · left; subst h0; rfl
    · right
      obtain ⟨b, o, spot⟩ := a
      have hspot : spot = none := by
        have h5 := (World.cells?_some (hX 0 (by omega)).1).2.2 0 (by decide)
        have h6 : W.cell? ((⟨b, o, spot⟩ : Addr)) = some (.int .i64 (X 0).kind) := by simpa [Addr.add] using h5
        exact World.cell?_spot h6
      subst hspot
      refine ⟨b, o, rfl, fun j x hj => ?_⟩
      have hjl : j < l0 := by
        have := (List.getElem?_eq_some_iff.1 hj).1
        simpa using this
      have hxe : x = X j := by simpa [hjl] using hj.symm
      subst hxe
      have h5 := (World.cells?_some (hX j hjl).1).2.2
      have e0 := h5 0 (by decide)
      have e1 := h5 1 (by decide)
      have e2 := h5 2 (by decide)
      have e3 := h5 3 (by decide)
      rw [Deep.add_add, add_plain3] at e0 e1 e2 e3
      exact ⟨by simpa using e0, by simpa [Nat.add_assoc] using e1, by simpa [Nat.add_assoc] using e2, by simpa [Nat.add_assoc] using e3⟩
end Go.Proofs.YtagjmggiaffihabDoor
