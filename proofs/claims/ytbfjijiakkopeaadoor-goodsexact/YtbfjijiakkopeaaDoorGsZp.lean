/- What every proof of this seat uses: the door's own heap meets the rows' list; what comes in, read. -/
import Derived.Test.YtbfjijiakkopeaaDoorGsGi
import Derived.Test.YtbfjijiakkopeaaDoorCards
import Derived.Test.YtbfjijiakkopeaaDoorTie
import Derived.ProofKit
import Derived.LaidMore
import Derived.OpenShut
import Derived.Deep.Grids
import Derived.SevenTiedAt
import Derived.ChangeMaps5
import Derived.Stop.Joined
import Derived.Stop.LaidErr
import Derived.Stop.LaidTwo
namespace Go.Proofs.YtbfjijiakkopeaaDoor.Gs
open Go.ChangeShapes Go.WideShapes Go.ChangeAt Go.RowKit Go.Shelf
theorem door_met6 (os : Os) (args : Array Value) : laidMetH Tryd.prog Rows.goodsStaysRow.laid ((World.doorLaid Tryd.prog 366 os).forCall (fun _ _ => 0) ⟨#[], args, []⟩).memory :=
  laidMetH_of_parts3 (fuel := 8) (laidMet_of_run' 8 (by kernel_rfl) (by kernel_rfl)) (by kernel_rfl) (by kernel_rfl)
theorem Tryd.own : ownKnob Tryd.prog.godebug = none := by kernel_rfl
theorem Tryd.laidOut : laidOutB Tryd.prog = true := by kernel_rfl
theorem kl_cellsS : Tryd.prog.cellsOf 176 = 1 := by kernel_rfl
theorem kl_cells9 : Tryd.prog.cellsOf 9 = 1 := by kernel_rfl
theorem kl_star : "*" ++ "errors.errorString" = "*errors.errorString" := by decide
theorem kl_row (u : TypeId) (h : Tryd.prog.typeName? 3 u = some "*errors.errorString") : u = 154 :=
  typeName_ptr_named (nm := "errors.errorString") (by rw [kl_star]; kernel_rfl) (by kernel_rfl) (by decide) u (by rw [kl_star]; exact h)
theorem kl_g1 : Tryd.prog.globalNamed "pasodoble/api.ErrArg" = some 2 := by kernel_rfl
theorem kl_t1 : (Tryd.prog.globals[2]?).map (·.type) = some 30 := by kernel_rfl
theorem kl_g2 : Tryd.prog.globalNamed "pasodoble/api.ErrNil" = some 0 := by kernel_rfl
theorem kl_t2 : (Tryd.prog.globals[0]?).map (·.type) = some 30 := by kernel_rfl
theorem kl_g4 : Tryd.prog.globalNamed "pasodoble/api.ErrLong" = some 3 := by kernel_rfl
theorem kl_t4 : (Tryd.prog.globals[3]?).map (·.type) = some 30 := by kernel_rfl
theorem kl_g7 : Tryd.prog.globalNamed "pasodoble/api.ErrNone" = some 1 := by kernel_rfl
theorem kl_t7 : (Tryd.prog.globals[1]?).map (·.type) = some 30 := by kernel_rfl
theorem kl_g9 : Tryd.prog.globalNamed "pasodoble/api.ErrTwice" = some 5 := by kernel_rfl
theorem kl_t9 : (Tryd.prog.globals[5]?).map (·.type) = some 30 := by kernel_rfl
theorem kl_g10 : Tryd.prog.globalNamed "pasodoble/api.ErrName" = some 4 := by kernel_rfl
theorem kl_t10 : (Tryd.prog.globals[4]?).map (·.type) = some 30 := by kernel_rfl
/-- What is known of one sentinel. -/
def OneK (W : World) (g : Nat) (t : List UInt8) (a : Addr) : Prop := W.cell? ⟨g, 0, none⟩ = some (.iface 154 (.pointer (some a))) ∧ SenK W a ∧ ∃ s : ByteArray, W.cell? a = some (.string s) ∧ s.data.toList = t
theorem two_of {n0 n1 : String} {text0 text1 : List UInt8} {r : List (String × DataW Unit)} {W : World} {g0 g1 : Nat}
    (h : laidMet Tryd.prog ((n0, .iface "*errors.errorString" (.ptr (.agg [.lit (.string text0)]))) :: (n1, .iface "*errors.errorString" (.ptr (.agg [.lit (.string text1)]))) :: r) W)
    (hg0 : Tryd.prog.globalNamed n0 = some g0) (ht0 : (Tryd.prog.globals[g0]?).map (·.type) = some 30) (hg1 : Tryd.prog.globalNamed n1 = some g1) (ht1 : (Tryd.prog.globals[g1]?).map (·.type) = some 30) : (∃ a, OneK W g0 text0 a) ∧ ∃ a, OneK W g1 text1 a := by
  obtain ⟨a0, a1, s0, s1, c0, c1, t0, t1, v0, v1, e0, x0, _, e1, x1, _, _, b0, b1⟩ := laid_sentinels2 h hg0 ht0 hg1 ht1 Tryd.underlying30 kl_row Tryd.underlying154 Tryd.underlying176 rfl rfl Tryd.underlying9 kl_cellsS kl_cells9
  exact ⟨⟨a0, World.var?_cell hg0 v0 0, ⟨c0, t0, b0⟩, s0, e0, x0⟩, a1, World.var?_cell hg1 v1 0, ⟨c1, t1, b1⟩, s1, e1, x1⟩
theorem ne_of_text {W : World} {g g' : Nat} {t t' : List UInt8} {a a' : Addr} (h : OneK W g t a) (h' : OneK W g' t' a') (hne : t ≠ t') : a ≠ a' := fun e => by
  obtain ⟨_, _, s, c, x⟩ := h
  obtain ⟨_, _, s', c', x'⟩ := h'
  rw [e, c'] at c
  simp only [Option.some.injEq, Value.string.injEq] at c
  rw [← c, x'] at x
  exact hne x.symm
def ad6 (a1 a2 a4 a7 a9 a10 : Addr) (k : Nat) : Addr := if k = 1 then a1 else if k = 2 then a2 else if k = 4 then a4 else if k = 7 then a7 else if k = 9 then a9 else a10
theorem env6_of {W : World} (h : laidMetH Tryd.prog Rows.goodsStaysRow.laid W) : ∃ Ad, Env8 W Ad := by
  rw [MakeChecks.laidMetH_plain _ _ _ (by kernel_rfl)] at h
  have h' : laidMet Tryd.prog [("pasodoble/api.ErrArg", Rows.laid_pasodoble_api_ErrArg), ("pasodoble/api.ErrNil", Rows.laid_pasodoble_api_ErrNil), ("pasodoble/api.ErrLong", Rows.laid_pasodoble_api_ErrLong), ("pasodoble/api.ErrNone", Rows.laid_pasodoble_api_ErrNone), ("pasodoble/api.ErrTwice", Rows.laid_pasodoble_api_ErrTwice), ("pasodoble/api.ErrName", Rows.laid_pasodoble_api_ErrName)] W := h.tail.tail.tail
  obtain ⟨⟨a1, h1⟩, a2, h2⟩ := two_of h' kl_g1 kl_t1 kl_g2 kl_t2
  obtain ⟨⟨a4, h4⟩, a7, h7⟩ := two_of h'.tail.tail kl_g4 kl_t4 kl_g7 kl_t7
  obtain ⟨⟨a9, h9⟩, a10, h10⟩ := two_of h'.tail.tail.tail.tail kl_g9 kl_t9 kl_g10 kl_t10
  have n1_2 := ne_of_text h1 h2 (by decide)
  have n1_4 := ne_of_text h1 h4 (by decide)
  have n1_7 := ne_of_text h1 h7 (by decide)
  have n1_9 := ne_of_text h1 h9 (by decide)
  have n1_10 := ne_of_text h1 h10 (by decide)
  have n2_4 := ne_of_text h2 h4 (by decide)
  have n2_7 := ne_of_text h2 h7 (by decide)
  have n2_9 := ne_of_text h2 h9 (by decide)
  have n2_10 := ne_of_text h2 h10 (by decide)
  have n4_7 := ne_of_text h4 h7 (by decide)
  have n4_9 := ne_of_text h4 h9 (by decide)
  have n4_10 := ne_of_text h4 h10 (by decide)
  have n7_9 := ne_of_text h7 h9 (by decide)
  have n7_10 := ne_of_text h7 h10 (by decide)
  have n9_10 := ne_of_text h9 h10 (by decide)
  have F : ∀ {P : Nat → Prop}, P 1 → P 2 → P 4 → P 7 → P 9 → P 10 → ∀ k ∈ eight, P k := by
    intro P p1 p2 p4 p7 p9 p10 k hk
    simp only [eight, List.mem_cons, List.not_mem_nil, or_false] at hk
    rcases hk with rfl | rfl | rfl | rfl | rfl | rfl <;> assumption
  have C := F (P := fun k => W.cell? ⟨gv k, 0, none⟩ = some (.iface 154 (.pointer (some (ad6 a1 a2 a4 a7 a9 a10 k))))) h1.1 h2.1 h4.1 h7.1 h9.1 h10.1
  have S := F (P := fun k => SenK W (ad6 a1 a2 a4 a7 a9 a10 k)) h1.2.1 h2.2.1 h4.2.1 h7.2.1 h9.2.1 h10.2.1
  have I : ∀ i ∈ eight, ∀ j ∈ eight, ad6 a1 a2 a4 a7 a9 a10 i = ad6 a1 a2 a4 a7 a9 a10 j → i = j := by
    refine F (F ?_ ?_ ?_ ?_ ?_ ?_) (F ?_ ?_ ?_ ?_ ?_ ?_) (F ?_ ?_ ?_ ?_ ?_ ?_) (F ?_ ?_ ?_ ?_ ?_ ?_) (F ?_ ?_ ?_ ?_ ?_ ?_) (F ?_ ?_ ?_ ?_ ?_ ?_)
    all_goals simp [ad6]
    all_goals first | exact n1_2 | exact n1_2.symm | exact n1_4 | exact n1_4.symm | exact n1_7 | exact n1_7.symm | exact n1_9 | exact n1_9.symm | exact n1_10 | exact n1_10.symm | exact n2_4 | exact n2_4.symm | exact n2_7 | exact n2_7.symm | exact n2_9 | exact n2_9.symm | exact n2_10 | exact n2_10.symm | exact n4_7 | exact n4_7.symm | exact n4_9 | exact n4_9.symm | exact n4_10 | exact n4_10.symm | exact n7_9 | exact n7_9.symm | exact n7_10 | exact n7_10.symm | exact n9_10 | exact n9_10.symm
  exact ⟨_, fun k hk _ => C k hk, fun k hk _ => S k hk, fun i j hi hj => I i hi j hj⟩
theorem cellsI : Tryd.prog.cellsOf 3 = 1 := by kernel_rfl
theorem cellsAct : Tryd.prog.cellsOf 41 = 4 := by kernel_rfl
theorem add_plain3 (b o j : Nat) : (⟨b, o, none⟩ : Addr).add j = ⟨b, o + j, none⟩ := by unfold Addr.add; split <;> simp_all
set_option maxRecDepth 100000 in
theorem lrow_of {H : Type} {enc : TypeId × Value → H} {W : World} {fuel : Nat} {c : Value} {d : DataW H × List MemPlace} (hf : DataW.trod enc Tryd.prog W 0 (fun _ => true) true fuel 39 [c] = some d) :
    ∃ ts, LRow W c ts := by
  rcases Deep.open_slice Tryd.underlying39 hf with ⟨h1, h2⟩ | ⟨a, len, cap, m, n, D, Pl, h1, _, hl, _, hm, hx, hel⟩
  · exact ⟨[], none, 0, by simpa using h1, .inl rfl⟩
  · simp only [if_true] at hm
    subst hm
    rw [cellsI] at hel
    obtain ⟨X, hX⟩ := Deep.choose_lt (α := Int) (n := len) (p := fun i q => W.cells? 0 (a.add (i * 1)) 1 = some [.int .i64 q]) (fun i hi => by
      obtain ⟨cs', hc1, hc2⟩ := hel i (by omega)
      obtain ⟨y, e, _, _⟩ := DataW.trod_int Tryd.underlying3 hc2
      subst e
      exact ⟨y, hc1⟩)
    refine ⟨(List.range len).map X, some a, m, by simpa using h1, ?_⟩
    by_cases h0 : len = 0
    · left; subst h0; rfl
    · right
      obtain ⟨b, o, spot⟩ := a
      have hspot : spot = none := by
        have h5 := (World.cells?_some (hX 0 (by omega))).2.2 0 (by decide)
        have h6 : W.cell? ((⟨b, o, spot⟩ : Addr)) = some (.int .i64 (X 0)) := by simpa [Addr.add] using h5
        exact World.cell?_spot h6
      subst hspot
      refine ⟨b, o, rfl, fun j x hj => ?_⟩
      have hjl : j < len := by
        have := (List.getElem?_eq_some_iff.1 hj).1
        simpa using this
      have hxe : x = X j := by simpa [hjl] using hj.symm
      subst hxe
      have h5 := (World.cells?_some (hX j hjl)).2.2
      have e0 := h5 0 (by decide)
      rw [Deep.add_add, add_plain3] at e0
      simpa using e0
set_option maxRecDepth 100000 in
/-- One act, out of its four cells. -/
theorem act_of {H : Type} {enc : TypeId × Value → H} {W : World} {fuel : Nat} {cs : List Value} {x : DataW H × List MemPlace} (h : DataW.trod enc Tryd.prog W 0 (fun _ => true) true fuel 41 cs = some x) :
    ∃ y : ActI, cs = [.int .i64 y.kd, .int .i64 y.i, .int .i64 y.n, y.lv] ∧ LRow W y.lv y.l := by
  obtain ⟨xs, n, _, _, hl, hx, hf⟩ := DataW.trod_struct Tryd.underlying41 h
  rw [cellsAct] at hl
  match cs, hl with
  | [c0, c1, c2, c3], _ =>
    have f0 := hf 0 _ rfl
    have f1 := hf 1 _ rfl
    have f2 := hf 2 _ rfl
    have f3 := hf 3 _ rfl
    obtain ⟨x0, h0⟩ : ∃ x0, xs[0]? = some x0 := ⟨xs[0]'(by rw [hx]; decide), List.getElem?_eq_getElem _⟩
    obtain ⟨x1, h1⟩ : ∃ x1, xs[1]? = some x1 := ⟨xs[1]'(by rw [hx]; decide), List.getElem?_eq_getElem _⟩
    obtain ⟨x2, h2⟩ : ∃ x2, xs[2]? = some x2 := ⟨xs[2]'(by rw [hx]; decide), List.getElem?_eq_getElem _⟩
    obtain ⟨x3, h3⟩ : ∃ x3, xs[3]? = some x3 := ⟨xs[3]'(by rw [hx]; decide), List.getElem?_eq_getElem _⟩
    have g0 : DataW.trod enc Tryd.prog W 0 (fun _ => true) true n 3 [c0] = some x0 := by rw [← h0, ← f0]; rfl
    have g1 : DataW.trod enc Tryd.prog W 0 (fun _ => true) true n 3 [c1] = some x1 := by rw [← h1, ← f1]; rfl
    have g2 : DataW.trod enc Tryd.prog W 0 (fun _ => true) true n 3 [c2] = some x2 := by rw [← h2, ← f2]; rfl
    have g3 : DataW.trod enc Tryd.prog W 0 (fun _ => true) true n 39 [c3] = some x3 := by rw [← h3, ← f3]; rfl
    obtain ⟨k, e0, _, _⟩ := DataW.trod_int Tryd.underlying3 g0
    obtain ⟨i, e1, _, _⟩ := DataW.trod_int Tryd.underlying3 g1
    obtain ⟨m, e2, _, _⟩ := DataW.trod_int Tryd.underlying3 g2
    obtain ⟨ts, e3⟩ := lrow_of g3
    simp at e0 e1 e2
    exact ⟨⟨k, i, m, c3, ts⟩, by rw [e0, e1, e2], e3⟩
set_option maxRecDepth 100000 in
theorem acts_of {H : Type} {enc : TypeId × Value → H} {W : World} {v : Value} {d : DataW H} {ps : List MemPlace} (h : DataW.Trod enc Tryd.prog W 0 (fun _ => true) true 26 v d ps) (hv : ∃ a l c, v = .slice a l c) :
    ∃ cl, ActRow W v cl := by
  obtain ⟨fuel, hf⟩ := h
  obtain ⟨a0, l0, c0, rfl⟩ := hv
  rcases Deep.open_slice Tryd.underlying26 hf with ⟨h1, h2⟩ | ⟨a, len, cap, m, n, D, Pl, h1, _, hl, _, hm, hx, hel⟩
  · simp [Value.cells] at h1
    obtain ⟨rfl, rfl, rfl⟩ := h1
    exact ⟨[], none, 0, rfl, by simp, .inl rfl⟩
  · simp [Value.cells] at h1
    obtain ⟨rfl, rfl, rfl⟩ := h1
    simp only [if_true] at hm
    subst hm
    rw [cellsAct] at hel
    haveI : Inhabited ActI := ⟨⟨0, 0, 0, .nilIface, []⟩⟩
    obtain ⟨X, hX⟩ := Deep.choose_lt (α := ActI) (n := l0) (p := fun i q => W.cells? 0 (a.add (i * 4)) 4 = some [.int .i64 q.kd, .int .i64 q.i, .int .i64 q.n, q.lv] ∧ LRow W q.lv q.l) (fun i hi => by
      obtain ⟨cs', hc1, hc2⟩ := hel i (by omega)
      obtain ⟨y, e, hy⟩ := act_of hc2
      subst e
      exact ⟨y, hc1, hy⟩)
    refine ⟨(List.range l0).map X, some a, m, by simp, fun x hx => ?_, ?_⟩
    · obtain ⟨i, hi, rfl⟩ := List.mem_map.1 hx
      exact (hX i (List.mem_range.1 hi)).2
    by_cases h0 : l0 = 0
    · left; subst h0; rfl
    · right
      obtain ⟨b, o, spot⟩ := a
      have hspot : spot = none := by
        have h5 := (World.cells?_some (hX 0 (by omega)).1).2.2 0 (by decide)
        have h6 : W.cell? ((⟨b, o, spot⟩ : Addr)) = some (.int .i64 (X 0).kd) := by simpa [Addr.add] using h5
        exact World.cell?_spot h6
      subst hspot
      refine ⟨b, o, rfl, fun j x hj => ?_⟩
      have hjl : j < l0 := by
        have := (List.getElem?_eq_some_iff.1 hj).1
        simpa using this
      have hxe : x = X j := by simpa [hjl] using hj.symm
      subst hxe
      have h5 := (World.cells?_some (hX j hjl).1).2.2
      have e0 := h5 0 (by decide)
      have e1 := h5 1 (by decide)
      have e2 := h5 2 (by decide)
      have e3 := h5 3 (by decide)
      rw [Deep.add_add, add_plain3] at e0 e1 e2 e3
      exact ⟨by simpa using e0, by simpa [Nat.add_assoc] using e1, by simpa [Nat.add_assoc] using e2, by simpa [Nat.add_assoc] using e3⟩
end Go.Proofs.YtbfjijiakkopeaaDoor.Gs
