/- What the rows' conditions give the walks: the sentinels' cells, and the items as data. -/
import Derived.Test.YthngdaeiopgigaaDoorLa
import Derived.ProofKit
import Derived.LaidMore
import Derived.OpenShut
import Derived.Stop.Joined
import Derived.Stop.LaidErr
import Derived.Deep.Grids
namespace Go.Proofs.YthngdaeiopgigaaDoor
open Go.ChangeShapes Go.WideShapes Go.ChangeAt Go.RowKit
theorem Tryd.own : ownKnob Tryd.prog.godebug = none := by kernel_rfl
theorem gForm : Tryd.prog.globalNamed "pasodoble/api.ErrForm" = some 0 := by kernel_rfl
theorem gArg : Tryd.prog.globalNamed "pasodoble/api.ErrArg" = some 1 := by kernel_rfl
theorem gLong : Tryd.prog.globalNamed "pasodoble/api.ErrLong" = some 2 := by kernel_rfl
theorem gNil : Tryd.prog.globalNamed "pasodoble/api.ErrNil" = some 3 := by kernel_rfl
theorem tForm : (Tryd.prog.globals[0]?).map (·.type) = some 32 := by kernel_rfl
theorem tArg : (Tryd.prog.globals[1]?).map (·.type) = some 32 := by kernel_rfl
theorem tLong : (Tryd.prog.globals[2]?).map (·.type) = some 32 := by kernel_rfl
theorem tNil : (Tryd.prog.globals[3]?).map (·.type) = some 32 := by kernel_rfl
theorem Tryd.cells22 : Tryd.prog.cellsOf 22 = 1 := by kernel_rfl
theorem Tryd.cells30 : Tryd.prog.cellsOf 30 = 4 := by kernel_rfl
theorem Tryd.cells3 : Tryd.prog.cellsOf 3 = 1 := by kernel_rfl
theorem Tryd.cells9 : Tryd.prog.cellsOf 9 = 1 := by kernel_rfl
theorem Tryd.cells28 : Tryd.prog.cellsOf 28 = 1 := by kernel_rfl
theorem Tryd.cells4 : Tryd.prog.cellsOf 4 = 1 := by kernel_rfl
theorem Tryd.cells137 : Tryd.prog.cellsOf 137 = 1 := by kernel_rfl
theorem Tryd.name113 : Tryd.prog.typeName? 3 113 = some "*errors.errorString" := by kernel_rfl
theorem Tryd.star : "*" ++ "errors.errorString" = "*errors.errorString" := by decide
theorem Tryd.row113 (u : TypeId) (h : Tryd.prog.typeName? 3 u = some "*errors.errorString") : u = 113 :=
  typeName_ptr_named (nm := "errors.errorString") (by rw [Tryd.star]; kernel_rfl) (by kernel_rfl) (by decide) u (by rw [Tryd.star]; exact h)
theorem env_of_laid {W : World} {r : List (String × DataW Unit)} (h : laidMet Tryd.prog (("pasodoble/api.ErrArg", Rows.laid_pasodoble_api_ErrArg) :: ("pasodoble/api.ErrNil", Rows.laid_pasodoble_api_ErrNil) :: ("pasodoble/api.ErrForm", Rows.laid_pasodoble_api_ErrForm) :: ("pasodoble/api.ErrLong", Rows.laid_pasodoble_api_ErrLong) :: r) W) :
    ∃ aF aA aL aN, Env W aF aA aL aN := by
  obtain ⟨aA, _, hA, _⟩ := laid_sentinel h gArg tArg Tryd.underlying32 Tryd.row113 Tryd.underlying113 Tryd.underlying137 rfl rfl Tryd.underlying9 Tryd.cells137 Tryd.cells9
  obtain ⟨aN, _, hN, _⟩ := laid_sentinel h.tail gNil tNil Tryd.underlying32 Tryd.row113 Tryd.underlying113 Tryd.underlying137 rfl rfl Tryd.underlying9 Tryd.cells137 Tryd.cells9
  obtain ⟨aF, _, hF, _⟩ := laid_sentinel h.tail.tail gForm tForm Tryd.underlying32 Tryd.row113 Tryd.underlying113 Tryd.underlying137 rfl rfl Tryd.underlying9 Tryd.cells137 Tryd.cells9
  obtain ⟨aL, _, hL, _⟩ := laid_sentinel h.tail.tail.tail gLong tLong Tryd.underlying32 Tryd.row113 Tryd.underlying113 Tryd.underlying137 rfl rfl Tryd.underlying9 Tryd.cells137 Tryd.cells9
  exact ⟨aF, aA, aL, aN, World.var?_cell gForm hF 0, World.var?_cell gArg hA 0, World.var?_cell gLong hL 0, World.var?_cell gNil hN 0⟩
/-- A slice of bools, out of its reading. -/
theorem bools_of {H : Type} {enc : TypeId × Value → H} {W : World} {fuel : Nat} {v : Value} {x : DataW H × List MemPlace} (h : DataW.trod enc Tryd.prog W 0 (fun _ => true) true fuel 28 [v] = some x) : ∃ fl, Bools W v fl := by
  rcases Deep.open_bools Tryd.underlying28 Tryd.underlying4 Tryd.cells4 h with ⟨h1, _⟩ | ⟨a, len, cap, B, h1, _, hl, _, _, hc⟩
  · simp at h1; subst h1; exact ⟨[], Bools.nil _⟩
  · simp at h1
    subst h1
    refine ⟨(List.range len).map B, some a, cap, by simp, ?_⟩
    by_cases h0 : len = 0
    · left; subst h0; rfl
    · right
      obtain ⟨b, o, spot⟩ := a
      have hspot : spot = none := by simpa [Addr.add] using World.cell?_spot (hc 0 (by omega))
      subst hspot
      refine ⟨b, o, rfl, fun j hj => ?_⟩
      have hj : j < len := by simpa using hj
      rw [← add_plain, hc j (by omega)]
      simp [List.getD_eq_getElem?_getD, hj]
theorem I64_of {n : Int} (h : (Lit.int .i64 n).wf = true) : I64 n := bounds_i64 h
set_option maxRecDepth 100000 in
/-- One item, out of its four cells. -/
theorem item_of {H : Type} {enc : TypeId × Value → H} {W : World} {fuel : Nat} {cs : List Value} {x : DataW H × List MemPlace} (h : DataW.trod enc Tryd.prog W 0 (fun _ => true) true fuel 30 cs = some x) :
    ∃ (y : Itm) (fv : Value), cs = [.int .i64 y.kind, .int .i64 y.N, .string y.text, fv] ∧ Bools W fv y.fl ∧ I64 y.N := by
  obtain ⟨xs, n, _, _, hl, hx, hf⟩ := DataW.trod_struct Tryd.underlying30 h
  rw [Tryd.cells30] at hl
  match cs, hl with
  | [c0, c1, c2, c3], _ =>
    have f0 := hf 0 _ rfl
    have f1 := hf 1 _ rfl
    have f2 := hf 2 _ rfl
    have f3 := hf 3 _ rfl
    obtain ⟨x0, h0⟩ : ∃ x0, xs[0]? = some x0 := ⟨xs[0]'(by rw [hx]; decide), List.getElem?_eq_getElem _⟩
    obtain ⟨x1, h1⟩ : ∃ x1, xs[1]? = some x1 := ⟨xs[1]'(by rw [hx]; decide), List.getElem?_eq_getElem _⟩
    obtain ⟨x2, h2⟩ : ∃ x2, xs[2]? = some x2 := ⟨xs[2]'(by rw [hx]; decide), List.getElem?_eq_getElem _⟩
    obtain ⟨x3, h3⟩ : ∃ x3, xs[3]? = some x3 := ⟨xs[3]'(by rw [hx]; decide), List.getElem?_eq_getElem _⟩
    have g0 : DataW.trod enc Tryd.prog W 0 (fun _ => true) true n 3 [c0] = some x0 := by rw [← h0, ← f0]; rfl
    have g1 : DataW.trod enc Tryd.prog W 0 (fun _ => true) true n 3 [c1] = some x1 := by rw [← h1, ← f1]; rfl
    have g2 : DataW.trod enc Tryd.prog W 0 (fun _ => true) true n 9 [c2] = some x2 := by rw [← h2, ← f2]; rfl
    have g3 : DataW.trod enc Tryd.prog W 0 (fun _ => true) true n 28 [c3] = some x3 := by rw [← h3, ← f3]; rfl
    obtain ⟨k, e0, _, _⟩ := DataW.trod_int Tryd.underlying3 g0
    obtain ⟨m, e1, _, w1⟩ := DataW.trod_int Tryd.underlying3 g1
    obtain ⟨t, e2, _, _⟩ := DataW.trod_string Tryd.underlying9 g2
    obtain ⟨fl, hfl⟩ := bools_of g3
    simp at e0 e1 e2
    exact ⟨⟨k, m, t, fl⟩, c3, by rw [e0, e1, e2], hfl, I64_of w1⟩
instance : Inhabited Itm := ⟨⟨0, 0, ⟨#[]⟩, []⟩⟩
set_option maxRecDepth 100000 in
/-- A row of items, out of its reading. -/
theorem its_of {H : Type} {enc : TypeId × Value → H} {W : World} {v : Value} {d : DataW H} {ps : List MemPlace} (h : DataW.Trod enc Tryd.prog W 0 (fun _ => true) true 22 v d ps) (hv : ∃ a l c, v = .slice a l c) :
    ∃ xs, Its W v xs ∧ (d = .nil ∧ xs = [] ∨ ∃ es sp, d = .slice es sp ∧ xs.length = es.length) := by
  obtain ⟨fuel, hf⟩ := h
  obtain ⟨a0, l0, c0, rfl⟩ := hv
  rcases Deep.open_slice Tryd.underlying22 hf with ⟨h1, h2⟩ | ⟨a, len, cap, m, n, D, Pl, h1, _, hl, _, hm, hx, hel⟩
  · simp [Value.cells] at h1
    obtain ⟨rfl, rfl, rfl⟩ := h1
    simp only [Prod.mk.injEq] at h2
    exact ⟨[], ⟨⟨none, 0, rfl, .inl rfl⟩, by simp, by simp⟩, .inl ⟨h2.1, rfl⟩⟩
  · simp [Value.cells] at h1
    obtain ⟨rfl, rfl, rfl⟩ := h1
    simp only [if_true] at hm
    subst hm
    simp only [Prod.mk.injEq] at hx
    rw [Tryd.cells30] at hel
    obtain ⟨X, hX⟩ := Deep.choose_lt (α := Itm × Value) (n := l0) (p := fun i q => W.cells? 0 (a.add (i * 4)) 4 = some [.int .i64 q.1.kind, .int .i64 q.1.N, .string q.1.text, q.2] ∧ Bools W q.2 q.1.fl ∧ I64 q.1.N) (fun i hi => by
      obtain ⟨cs', hc1, hc2⟩ := hel i (by omega)
      obtain ⟨y, fv, e, h3, h4⟩ := item_of hc2
      subst e
      exact ⟨(y, fv), hc1, h3, h4⟩)
    refine ⟨(List.range l0).map X, ⟨⟨some a, m, by simp, ?_⟩, ?_, ?_⟩, .inr ⟨_, _, hx.1, by simp⟩⟩
    · by_cases h0 : l0 = 0
      · left; subst h0; rfl
      · right
        obtain ⟨b, o, spot⟩ := a
        have hspot : spot = none := by
          have h5 := (World.cells?_some (hX 0 (by omega)).1).2.2 0 (by decide)
          have h6 : W.cell? ((⟨b, o, spot⟩ : Addr)) = some (.int .i64 (X 0).1.kind) := by simpa [Addr.add] using h5
          exact World.cell?_spot h6
        subst hspot
        refine ⟨b, o, rfl, fun j x hj => ?_⟩
        have hjl : j < l0 := by
          have := (List.getElem?_eq_some_iff.1 hj).1
          simpa using this
        have hxe : x = X j := by simpa [hjl] using hj.symm
        subst hxe
        have h5 := (World.cells?_some (hX j hjl).1).2.2
        have e0 := h5 0 (by decide)
        have e1 := h5 1 (by decide)
        have e2 := h5 2 (by decide)
        have e3 := h5 3 (by decide)
        rw [Deep.add_add, add_plain] at e0 e1 e2 e3
        exact ⟨by simpa using e0, by simpa [Nat.add_assoc] using e1, by simpa [Nat.add_assoc] using e2, by simpa [Nat.add_assoc] using e3⟩
    · intro x hx
      obtain ⟨i, hi, rfl⟩ := List.mem_map.1 hx
      exact (hX i (by simpa using hi)).2.1
    · intro x hx
      obtain ⟨i, hi, rfl⟩ := List.mem_map.1 hx
      exact (hX i (by simpa using hi)).2.2
end Go.Proofs.YthngdaeiopgigaaDoor
