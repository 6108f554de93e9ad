/- Rows of twigs, out of their reading. -/
import Derived.Test.YthmiacpaefjanaaDoorPb
import Derived.Test.YthmiacpaefjanaaDoorTa
namespace Go.Proofs.YthmiacpaefjanaaDoor
open Go.ChangeShapes Go.WideShapes Go.ChangeAt Go.RowKit
theorem Tryd.cells63 : Tryd.prog.cellsOf 63 = 3 := by kernel_rfl
theorem Tryd.cells61 : Tryd.prog.cellsOf 61 = 1 := by kernel_rfl
theorem add_plain3 (b o j : Nat) : (⟨b, o, none⟩ : Addr).add j = ⟨b, o + j, none⟩ := by unfold Addr.add; split <;> simp_all
instance : Inhabited Twg := ⟨⟨0, ⟨#[]⟩, 0⟩⟩
instance : Inhabited (Value × List Twg) := ⟨(.nilIface, [])⟩
set_option maxRecDepth 100000 in
/-- One twig, out of its three cells. -/
theorem twig_of {H : Type} {enc : TypeId × Value → H} {W : World} {fuel : Nat} {cs : List Value} {x : DataW H × List MemPlace} (h : DataW.trod enc Tryd.prog W 0 (fun _ => true) true fuel 63 cs = some x) :
    ∃ y : Twg, cs = [.int .i64 y.k, .string y.s, .int .i64 y.n] := by
  obtain ⟨xs, n, _, _, hl, hx, hf⟩ := DataW.trod_struct Tryd.underlying63 h
  rw [Tryd.cells63] at hl
  match cs, hl with
  | [c0, c1, c2], _ =>
    have f0 := hf 0 _ rfl
    have f1 := hf 1 _ rfl
    have f2 := hf 2 _ rfl
    obtain ⟨x0, h0⟩ : ∃ x0, xs[0]? = some x0 := ⟨xs[0]'(by rw [hx]; decide), List.getElem?_eq_getElem _⟩
    obtain ⟨x1, h1⟩ : ∃ x1, xs[1]? = some x1 := ⟨xs[1]'(by rw [hx]; decide), List.getElem?_eq_getElem _⟩
    obtain ⟨x2, h2⟩ : ∃ x2, xs[2]? = some x2 := ⟨xs[2]'(by rw [hx]; decide), List.getElem?_eq_getElem _⟩
    have g0 : DataW.trod enc Tryd.prog W 0 (fun _ => true) true n 3 [c0] = some x0 := by rw [← h0, ← f0]; rfl
    have g1 : DataW.trod enc Tryd.prog W 0 (fun _ => true) true n 9 [c1] = some x1 := by rw [← h1, ← f1]; rfl
    have g2 : DataW.trod enc Tryd.prog W 0 (fun _ => true) true n 3 [c2] = some x2 := by rw [← h2, ← f2]; rfl
    obtain ⟨k, e0, _, _⟩ := DataW.trod_int Tryd.underlying3 g0
    obtain ⟨t, e1, _, _⟩ := DataW.trod_string Tryd.underlying9 g1
    obtain ⟨m, e2, _, _⟩ := DataW.trod_int Tryd.underlying3 g2
    simp at e0 e1 e2
    exact ⟨⟨k, t, m⟩, by rw [e0, e1, e2]⟩
set_option maxRecDepth 100000 in
/-- A row of twigs, out of its cell. -/
theorem twrow_of {H : Type} {enc : TypeId × Value → H} {W : World} {fuel : Nat} {cs : List Value} {d : DataW H × List MemPlace} (hf : DataW.trod enc Tryd.prog W 0 (fun _ => true) true fuel 61 cs = some d) :
    ∃ v ts, cs = [v] ∧ TwRow W v ts := by
  rcases Deep.open_slice Tryd.underlying61 hf with ⟨h1, h2⟩ | ⟨a, len, cap, m, n, D, Pl, h1, _, hl, _, hm, hx, hel⟩
  · exact ⟨_, [], h1, ⟨none, 0, rfl, .inl rfl⟩⟩
  · simp only [if_true] at hm
    subst hm
    rw [Tryd.cells63] at hel
    obtain ⟨X, hX⟩ := Deep.choose_lt (α := Twg) (n := len) (p := fun i q => W.cells? 0 (a.add (i * 3)) 3 = some [.int .i64 q.k, .string q.s, .int .i64 q.n]) (fun i hi => by
      obtain ⟨cs', hc1, hc2⟩ := hel i (by omega)
      obtain ⟨y, e⟩ := twig_of hc2
      subst e
      exact ⟨y, hc1⟩)
    refine ⟨_, (List.range len).map X, h1, ⟨some a, m, by simp, ?_⟩⟩
    by_cases h0 : len = 0
    · left; subst h0; rfl
    · right
      obtain ⟨b, o, spot⟩ := a
      have hspot : spot = none := by
        have h5 := (World.cells?_some (hX 0 (by omega))).2.2 0 (by decide)
        have h6 : W.cell? ((⟨b, o, spot⟩ : Addr)) = some (.int .i64 (X 0).k) := by simpa [Addr.add] using h5
        exact World.cell?_spot h6
      subst hspot
      refine ⟨b, o, rfl, fun j x hj => ?_⟩
      have hjl : j < len := by
        have := (List.getElem?_eq_some_iff.1 hj).1
        simpa using this
      have hxe : x = X j := by simpa [hjl] using hj.symm
      subst hxe
      have h5 := (World.cells?_some (hX j hjl)).2.2
      have e0 := h5 0 (by decide)
      have e1 := h5 1 (by decide)
      have e2 := h5 2 (by decide)
      rw [Deep.add_add, add_plain3] at e0 e1 e2
      exact ⟨by simpa using e0, by simpa [Nat.add_assoc] using e1, by simpa [Nat.add_assoc] using e2⟩
set_option maxRecDepth 100000 in
/-- Rows of twigs, out of their reading. -/
theorem rows_of {H : Type} {enc : TypeId × Value → H} {W : World} {v : Value} {d : DataW H} {ps : List MemPlace} (h : DataW.Trod enc Tryd.prog W 0 (fun _ => true) true 22 v d ps) (hv : ∃ a l c, v = .slice a l c) : ∃ rs, Rows2 W v rs := by
  obtain ⟨fuel, hf⟩ := h
  obtain ⟨a0, l0, c0, rfl⟩ := hv
  rcases Deep.open_slice Tryd.underlying22 hf with ⟨h1, h2⟩ | ⟨a, len, cap, m, n, D, Pl, h1, _, hl, _, hm, hx, hel⟩
  · simp [Value.cells] at h1
    obtain ⟨rfl, rfl, rfl⟩ := h1
    exact ⟨[], ⟨⟨none, 0, rfl, .inl rfl⟩, by simp⟩⟩
  · simp [Value.cells] at h1
    obtain ⟨rfl, rfl, rfl⟩ := h1
    simp only [if_true] at hm
    subst hm
    rw [Tryd.cells61] at hel
    obtain ⟨X, hX⟩ := Deep.choose_lt (α := Value × List Twg) (n := l0) (p := fun i q => W.cells? 0 (a.add (i * 1)) 1 = some [q.1] ∧ TwRow W q.1 q.2) (fun i hi => by
      obtain ⟨cs', hc1, hc2⟩ := hel i (by omega)
      obtain ⟨v', ts, e, ht⟩ := twrow_of hc2
      subst e
      exact ⟨(v', ts), hc1, ht⟩)
    refine ⟨(List.range l0).map X, ⟨⟨some a, m, by simp, ?_⟩, ?_⟩⟩
    · by_cases h0 : l0 = 0
      · left; subst h0; rfl
      · right
        obtain ⟨b, o, spot⟩ := a
        have hspot : spot = none := by
          have h5 := (World.cells?_some (hX 0 (by omega)).1).2.2 0 (by decide)
          have h6 : W.cell? ((⟨b, o, spot⟩ : Addr)) = some (X 0).1 := by simpa [Addr.add] using h5
          exact World.cell?_spot h6
        subst hspot
        refine ⟨b, o, rfl, fun j x hj => ?_⟩
        have hjl : j < l0 := by
          have := (List.getElem?_eq_some_iff.1 hj).1
          simpa using this
        have hxe : x = X j := by simpa [hjl] using hj.symm
        subst hxe
        have e0 := (World.cells?_some (hX j hjl).1).2.2 0 (by decide)
        rw [Deep.add_add, add_plain3] at e0
        simpa using e0
    · intro x hx
      obtain ⟨i, hi, rfl⟩ := List.mem_map.1 hx
      exact (hX i (by simpa using hi)).2
end Go.Proofs.YthmiacpaefjanaaDoor
