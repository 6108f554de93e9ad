/- A schema, out of its reading. -/
import Derived.Test.YtkhhiddemihnbaaDoorCwCa
import Derived.Test.YtkhhiddemihnbaaDoorCwZq
import Derived.ProofKit
import Derived.OpenShut
import Derived.Deep.Grids
namespace Go.Proofs.YtkhhiddemihnbaaDoor.Cw
open Go.ChangeShapes Go.WideShapes Go.ChangeAt Go.RowKit
theorem cellsCmp : Tryd.prog.cellsOf 65 = 7 := by kernel_rfl
theorem cellsRsc : Tryd.prog.cellsOf 98 = 2 := by kernel_rfl
theorem cellsA4 : Tryd.prog.cellsOf 63 = 4 := by kernel_rfl
theorem cellsSch : Tryd.prog.cellsOf 39 = 2 := by kernel_rfl
theorem cellsInt : Tryd.prog.cellsOf 3 = 1 := by kernel_rfl
theorem arr4_of {H : Type} {enc : TypeId × Value → H} {W : World} {fuel : Nat} {cs : List Value} {x : DataW H × List MemPlace} (h : DataW.trod enc Tryd.prog W 0 (fun _ => true) true fuel 63 cs = some x) : ∃ d0 d1 d2 d3 : Int, cs = [.int .i64 d0, .int .i64 d1, .int .i64 d2, .int .i64 d3] := by
  obtain ⟨xs, m, _, _, hl, hx, hf⟩ := DataW.trod_array Tryd.underlying63 h
  rw [cellsA4] at hl
  simp only [cellsInt] at hf
  match cs, hl with
  | [c0, c1, c2, c3], _ =>
    have G : ∀ (i : Nat) (c : Value), i < 4 → ([c0, c1, c2, c3].drop (i * 1)).take 1 = [c] → ∃ n : Int, c = .int .i64 n := by
      intro i c hi he
      have h2 := hf i hi
      rw [he] at h2
      obtain ⟨y, hy⟩ : ∃ y, xs[i]? = some y := ⟨xs[i]'(by omega), List.getElem?_eq_getElem _⟩
      rw [hy] at h2
      obtain ⟨n, e, _, _⟩ := DataW.trod_int Tryd.underlying3 h2
      exact ⟨n, by simpa using e⟩
    obtain ⟨d0, e0⟩ := G 0 c0 (by decide) rfl
    obtain ⟨d1, e1⟩ := G 1 c1 (by decide) rfl
    obtain ⟨d2, e2⟩ := G 2 c2 (by decide) rfl
    obtain ⟨d3, e3⟩ := G 3 c3 (by decide) rfl
    exact ⟨d0, d1, d2, d3, by rw [e0, e1, e2, e3]⟩
set_option maxRecDepth 100000 in
/-- One component, out of its seven cells. -/
theorem cmp_of {H : Type} {enc : TypeId × Value → H} {W : World} {fuel : Nat} {cs : List Value} {x : DataW H × List MemPlace} (h : DataW.trod enc Tryd.prog W 0 (fun _ => true) true fuel 65 cs = some x) :
    ∃ y : Cmp, cs = [.string y.s, .int .i64 y.wd, .bool y.rb, .int .i64 y.d0, .int .i64 y.d1, .int .i64 y.d2, .int .i64 y.d3] := by
  obtain ⟨xs, n, _, _, hl, hx, hf⟩ := DataW.trod_struct Tryd.underlying65 h
  rw [cellsCmp] at hl
  match cs, hl with
  | [c0, c1, c2, c3, c4, c5, c6], _ =>
    have f0 := hf 0 _ rfl
    have f1 := hf 1 _ rfl
    have f2 := hf 2 _ rfl
    have f3 := hf 3 _ rfl
    obtain ⟨x0, h0⟩ : ∃ x0, xs[0]? = some x0 := ⟨xs[0]'(by rw [hx]; decide), List.getElem?_eq_getElem _⟩
    obtain ⟨x1, h1⟩ : ∃ x1, xs[1]? = some x1 := ⟨xs[1]'(by rw [hx]; decide), List.getElem?_eq_getElem _⟩
    obtain ⟨x2, h2⟩ : ∃ x2, xs[2]? = some x2 := ⟨xs[2]'(by rw [hx]; decide), List.getElem?_eq_getElem _⟩
    obtain ⟨x3, h3⟩ : ∃ x3, xs[3]? = some x3 := ⟨xs[3]'(by rw [hx]; decide), List.getElem?_eq_getElem _⟩
    have g0 : DataW.trod enc Tryd.prog W 0 (fun _ => true) true n 9 [c0] = some x0 := by rw [← h0, ← f0]; rfl
    have g1 : DataW.trod enc Tryd.prog W 0 (fun _ => true) true n 3 [c1] = some x1 := by rw [← h1, ← f1]; rfl
    have g2 : DataW.trod enc Tryd.prog W 0 (fun _ => true) true n 4 [c2] = some x2 := by rw [← h2, ← f2]; rfl
    have g3 : DataW.trod enc Tryd.prog W 0 (fun _ => true) true n 63 [c3, c4, c5, c6] = some x3 := by rw [← h3, ← f3]; rfl
    obtain ⟨t, e0, _, _⟩ := DataW.trod_string Tryd.underlying9 g0
    obtain ⟨k, e1, _, _⟩ := DataW.trod_int Tryd.underlying3 g1
    obtain ⟨b, e2, _⟩ := DataW.trod_bool Tryd.underlying4 g2
    obtain ⟨d0, d1, d2, d3, e3⟩ := arr4_of g3
    simp at e0 e1 e2 e3
    obtain ⟨rfl, rfl, rfl, rfl⟩ := e3
    exact ⟨⟨t, k, b, d0, d1, d2, d3⟩, by rw [e0, e1, e2]⟩
set_option maxRecDepth 100000 in
theorem rsc_of {H : Type} {enc : TypeId × Value → H} {W : World} {fuel : Nat} {cs : List Value} {x : DataW H × List MemPlace} (h : DataW.trod enc Tryd.prog W 0 (fun _ => true) true fuel 98 cs = some x) :
    ∃ y : Rsc, cs = [.string y.s, .int .i64 y.n] := by
  obtain ⟨xs, n, _, _, hl, hx, hf⟩ := DataW.trod_struct Tryd.underlying98 h
  rw [cellsRsc] at hl
  match cs, hl with
  | [c0, c1], _ =>
    have f0 := hf 0 _ rfl
    have f1 := hf 1 _ rfl
    obtain ⟨x0, h0⟩ : ∃ x0, xs[0]? = some x0 := ⟨xs[0]'(by rw [hx]; decide), List.getElem?_eq_getElem _⟩
    obtain ⟨x1, h1⟩ : ∃ x1, xs[1]? = some x1 := ⟨xs[1]'(by rw [hx]; decide), List.getElem?_eq_getElem _⟩
    have g0 : DataW.trod enc Tryd.prog W 0 (fun _ => true) true n 9 [c0] = some x0 := by rw [← h0, ← f0]; rfl
    have g1 : DataW.trod enc Tryd.prog W 0 (fun _ => true) true n 3 [c1] = some x1 := by rw [← h1, ← f1]; rfl
    obtain ⟨t, e0, _, _⟩ := DataW.trod_string Tryd.underlying9 g0
    obtain ⟨k, e1, _, _⟩ := DataW.trod_int Tryd.underlying3 g1
    simp at e0 e1
    exact ⟨⟨t, k⟩, by rw [e0, e1]⟩
set_option maxRecDepth 100000 in
theorem cmprow_of {H : Type} {enc : TypeId × Value → H} {W : World} {fuel : Nat} {cs : List Value} {d : DataW H × List MemPlace} (hf : DataW.trod enc Tryd.prog W 0 (fun _ => true) true fuel 36 cs = some d) :
    ∃ v ts, cs = [v] ∧ CmpRow W v ts := by
  rcases Deep.open_slice Tryd.underlying36 hf with ⟨h1, h2⟩ | ⟨a, len, cap, m, n, D, Pl, h1, _, hl, _, hm, hx, hel⟩
  · exact ⟨_, [], h1, ⟨none, 0, rfl, Nat.le_refl _, .inl rfl⟩⟩
  · simp only [if_true] at hm
    subst hm
    rw [cellsCmp] at hel
    haveI : Inhabited Cmp := ⟨⟨⟨#[]⟩, 0, false, 0, 0, 0, 0⟩⟩
    obtain ⟨X, hX⟩ := Deep.choose_lt (α := Cmp) (n := len) (p := fun i q => W.cells? 0 (a.add (i * 7)) 7 = some [.string q.s, .int .i64 q.wd, .bool q.rb, .int .i64 q.d0, .int .i64 q.d1, .int .i64 q.d2, .int .i64 q.d3]) (fun i hi => by
      obtain ⟨cs', hc1, hc2⟩ := hel i (by omega)
      obtain ⟨y, e⟩ := cmp_of hc2
      subst e
      exact ⟨y, hc1⟩)
    refine ⟨_, (List.range len).map X, h1, ⟨some a, m, by simp, by simpa using hl, ?_⟩⟩
    by_cases h0 : len = 0
    · left; subst h0; rfl
    · right
      obtain ⟨b, o, spot⟩ := a
      have hspot : spot = none := by
        have h5 := (World.cells?_some (hX 0 (by omega))).2.2 0 (by decide)
        have h6 : W.cell? ((⟨b, o, spot⟩ : Addr)) = some (.string (X 0).s) := by simpa [Addr.add] using h5
        exact World.cell?_spot h6
      subst hspot
      refine ⟨b, o, rfl, fun j x hj => ?_⟩
      have hjl : j < len := by
        have := (List.getElem?_eq_some_iff.1 hj).1
        simpa using this
      have hxe : x = X j := by simpa [hjl] using hj.symm
      subst hxe
      have h5 := (World.cells?_some (hX j hjl)).2.2
      have e0 := h5 0 (by decide)
      have e1 := h5 1 (by decide)
      have e2 := h5 2 (by decide)
      have e3 := h5 3 (by decide)
      have e4 := h5 4 (by decide)
      have e5 := h5 5 (by decide)
      have e6 := h5 6 (by decide)
      rw [Deep.add_add, add_plain3] at e0 e1 e2 e3 e4 e5 e6
      exact ⟨by simpa using e0, by simpa [Nat.add_assoc] using e1, by simpa [Nat.add_assoc] using e2, by simpa [Nat.add_assoc] using e3, by simpa [Nat.add_assoc] using e4, by simpa [Nat.add_assoc] using e5, by simpa [Nat.add_assoc] using e6⟩
set_option maxRecDepth 100000 in
theorem rscrow_of {H : Type} {enc : TypeId × Value → H} {W : World} {fuel : Nat} {cs : List Value} {d : DataW H × List MemPlace} (hf : DataW.trod enc Tryd.prog W 0 (fun _ => true) true fuel 37 cs = some d) :
    ∃ v ts, cs = [v] ∧ RscRow W v ts := by
  rcases Deep.open_slice Tryd.underlying37 hf with ⟨h1, h2⟩ | ⟨a, len, cap, m, n, D, Pl, h1, _, hl, _, hm, hx, hel⟩
  · exact ⟨_, [], h1, ⟨none, 0, rfl, Nat.le_refl _, .inl rfl⟩⟩
  · simp only [if_true] at hm
    subst hm
    rw [cellsRsc] at hel
    haveI : Inhabited Rsc := ⟨⟨⟨#[]⟩, 0⟩⟩
    obtain ⟨X, hX⟩ := Deep.choose_lt (α := Rsc) (n := len) (p := fun i q => W.cells? 0 (a.add (i * 2)) 2 = some [.string q.s, .int .i64 q.n]) (fun i hi => by
      obtain ⟨cs', hc1, hc2⟩ := hel i (by omega)
      obtain ⟨y, e⟩ := rsc_of hc2
      subst e
      exact ⟨y, hc1⟩)
    refine ⟨_, (List.range len).map X, h1, ⟨some a, m, by simp, by simpa using hl, ?_⟩⟩
    by_cases h0 : len = 0
    · left; subst h0; rfl
    · right
      obtain ⟨b, o, spot⟩ := a
      have hspot : spot = none := by
        have h5 := (World.cells?_some (hX 0 (by omega))).2.2 0 (by decide)
        have h6 : W.cell? ((⟨b, o, spot⟩ : Addr)) = some (.string (X 0).s) := by simpa [Addr.add] using h5
        exact World.cell?_spot h6
      subst hspot
      refine ⟨b, o, rfl, fun j x hj => ?_⟩
      have hjl : j < len := by
        have := (List.getElem?_eq_some_iff.1 hj).1
        simpa using this
      have hxe : x = X j := by simpa [hjl] using hj.symm
      subst hxe
      have h5 := (World.cells?_some (hX j hjl)).2.2
      have e0 := h5 0 (by decide)
      have e1 := h5 1 (by decide)
      rw [Deep.add_add, add_plain3] at e0 e1
      exact ⟨by simpa using e0, by simpa [Nat.add_assoc] using e1⟩
set_option maxRecDepth 100000 in
/-- A schema, out of its reading. -/
theorem schema_of {H : Type} {enc : TypeId × Value → H} {W : World} {v : Value} {d : DataW H} {ps : List MemPlace} (h : DataW.Trod enc Tryd.prog W 0 (fun _ => true) true 39 v d ps) (hv : ∃ cs, v = .agg cs) : ∃ va vb cs rs, v = .agg #[va, vb] ∧ CmpRow W va cs ∧ RscRow W vb rs := by
  obtain ⟨fuel, hf⟩ := h
  obtain ⟨arr, rfl⟩ := hv
  obtain ⟨xs, n, _, _, hl, hx, hfi⟩ := DataW.trod_struct Tryd.underlying39 hf
  rw [cellsSch] at hl
  obtain ⟨l⟩ := arr
  simp [Value.cells] at hl hfi
  match l, hl with
  | [c0, c1], _ =>
    have f0 := hfi 0 _ rfl
    have f1 := hfi 1 _ rfl
    obtain ⟨x0, h0⟩ : ∃ x0, xs[0]? = some x0 := ⟨xs[0]'(by rw [hx]; decide), List.getElem?_eq_getElem _⟩
    obtain ⟨x1, h1⟩ : ∃ x1, xs[1]? = some x1 := ⟨xs[1]'(by rw [hx]; decide), List.getElem?_eq_getElem _⟩
    have g0 : DataW.trod enc Tryd.prog W 0 (fun _ => true) true n 36 [c0] = some x0 := by rw [← h0, ← f0]; rfl
    have g1 : DataW.trod enc Tryd.prog W 0 (fun _ => true) true n 37 [c1] = some x1 := by rw [← h1, ← f1]; rfl
    obtain ⟨va, cs, e0, hc⟩ := cmprow_of g0
    obtain ⟨vb, rs, e1, hr⟩ := rscrow_of g1
    simp at e0 e1
    exact ⟨va, vb, cs, rs, by rw [e0, e1], hc, hr⟩
end Go.Proofs.YtkhhiddemihnbaaDoor.Cw
