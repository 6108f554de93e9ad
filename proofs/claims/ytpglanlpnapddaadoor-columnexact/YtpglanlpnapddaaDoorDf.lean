/- Rows of parts, and of calls, out of their reading. -/
import Derived.Test.YtpglanlpnapddaaDoorDe
namespace Go.Proofs.YtpglanlpnapddaaDoor
open Go.ChangeShapes Go.WideShapes Go.ChangeAt Go.RowKit
theorem arr4_of {H : Type} {enc : TypeId × Value → H} {W : World} {fuel : Nat} {cs : List Value} {x : DataW H × List MemPlace} (h : DataW.trod enc Tryd.prog W 0 (fun _ => true) true fuel 32 cs = some x) : ∃ d0 d1 d2 d3 : Int, cs = [.int .i64 d0, .int .i64 d1, .int .i64 d2, .int .i64 d3] := by
  obtain ⟨xs, m, _, _, hl, hx, hf⟩ := DataW.trod_array Tryd.underlying32 h
  rw [cells32] at hl
  simp only [cellsInt] at hf
  match cs, hl with
  | [c0, c1, c2, c3], _ =>
    have G : ∀ (i : Nat) (c : Value), i < 4 → ([c0, c1, c2, c3].drop (i * 1)).take 1 = [c] → ∃ n : Int, c = .int .i64 n := by
      intro i c hi he
      have h2 := hf i hi
      rw [he] at h2
      obtain ⟨y, hy⟩ : ∃ y, xs[i]? = some y := ⟨xs[i]'(by omega), List.getElem?_eq_getElem _⟩
      rw [hy] at h2
      obtain ⟨n, e, _, _⟩ := DataW.trod_int Tryd.underlying3 h2
      exact ⟨n, by simpa using e⟩
    obtain ⟨d0, e0⟩ := G 0 c0 (by decide) rfl
    obtain ⟨d1, e1⟩ := G 1 c1 (by decide) rfl
    obtain ⟨d2, e2⟩ := G 2 c2 (by decide) rfl
    obtain ⟨d3, e3⟩ := G 3 c3 (by decide) rfl
    exact ⟨d0, d1, d2, d3, by rw [e0, e1, e2, e3]⟩
set_option maxRecDepth 100000 in
/-- One part, out of its six cells. -/
theorem part_of {H : Type} {enc : TypeId × Value → H} {W : World} {fuel : Nat} {cs : List Value} {x : DataW H × List MemPlace} (h : DataW.trod enc Tryd.prog W 0 (fun _ => true) true fuel 34 cs = some x) :
    ∃ y : PI, cs = (y.p.arr y.cm).toList ∧ y.wf := by
  obtain ⟨xs, n, _, _, hl, hx, hf⟩ := DataW.trod_struct Tryd.underlying34 h
  rw [cells34] at hl
  match cs, hl with
  | [c0, c1, c2, c3, c4, c5], _ =>
    have f0 := hf 0 _ rfl
    have f1 := hf 1 _ rfl
    have f2 := hf 2 _ rfl
    obtain ⟨x0, h0⟩ : ∃ x0, xs[0]? = some x0 := ⟨xs[0]'(by rw [hx]; decide), List.getElem?_eq_getElem _⟩
    obtain ⟨x1, h1⟩ : ∃ x1, xs[1]? = some x1 := ⟨xs[1]'(by rw [hx]; decide), List.getElem?_eq_getElem _⟩
    obtain ⟨x2, h2⟩ : ∃ x2, xs[2]? = some x2 := ⟨xs[2]'(by rw [hx]; decide), List.getElem?_eq_getElem _⟩
    have g0 : DataW.trod enc Tryd.prog W 0 (fun _ => true) true n 3 [c0] = some x0 := by rw [← h0, ← f0]; rfl
    have g1 : DataW.trod enc Tryd.prog W 0 (fun _ => true) true n 32 [c1, c2, c3, c4] = some x1 := by rw [← h1, ← f1]; rfl
    have g2 : DataW.trod enc Tryd.prog W 0 (fun _ => true) true n 3 [c5] = some x2 := by rw [← h2, ← f2]; rfl
    obtain ⟨k, e0, _, _⟩ := DataW.trod_int Tryd.underlying3 g0
    obtain ⟨d0, d1, d2, d3, e1⟩ := arr4_of g1
    obtain ⟨t, e2, _, w2⟩ := DataW.trod_int Tryd.underlying3 g2
    simp at e0 e1 e2
    obtain ⟨rfl, rfl, rfl, rfl⟩ := e1
    exact ⟨⟨k, ⟨d0, d1, d2, d3, t⟩⟩, by rw [e0, e2]; rfl, w2⟩
theorem six_of {W : World} {b o : Nat} {y : PI} (h : W.cells? 0 ⟨b, o, none⟩ 6 = some (y.p.arr y.cm).toList) : Six W b o y.cm y.p := by
  have h5 := (World.cells?_some h).2.2
  have C : ∀ i, i < 6 → W.cell? ⟨b, o + i, none⟩ = (y.p.arr y.cm)[i]? := fun i hi => by
    have := h5 i hi
    rw [add_at2] at this
    rw [this]
    simp
  exact ⟨C 0 (by decide), C 1 (by decide), C 2 (by decide), C 3 (by decide), C 4 (by decide), C 5 (by decide)⟩
set_option maxRecDepth 100000 in
theorem parts_of {H : Type} {enc : TypeId × Value → H} {W : World} {v : Value} {d : DataW H} {ps : List MemPlace} (h : DataW.Trod enc Tryd.prog W 0 (fun _ => true) true 51 v d ps) (hv : ∃ a l c, v = .slice a l c) :
    ∃ l, PRow W v l := by
  obtain ⟨fuel, hf⟩ := h
  obtain ⟨a0, l0, c0, rfl⟩ := hv
  rcases Deep.open_slice Tryd.underlying51 hf with ⟨h1, h2⟩ | ⟨a, len, cap, m, n, D, Pl, h1, _, hl, _, hm, hx, hel⟩
  · simp [Value.cells] at h1
    obtain ⟨rfl, rfl, rfl⟩ := h1
    exact ⟨[], none, 0, rfl, by simp, .inl rfl⟩
  · simp [Value.cells] at h1
    obtain ⟨rfl, rfl, rfl⟩ := h1
    simp only [if_true] at hm
    subst hm
    rw [cells34] at hel
    haveI : Inhabited PI := ⟨⟨0, Pt.zero⟩⟩
    obtain ⟨X, hX⟩ := Deep.choose_lt (α := PI) (n := l0) (p := fun i q => W.cells? 0 (a.add (i * 6)) 6 = some (q.p.arr q.cm).toList ∧ q.wf) (fun i hi => by
      obtain ⟨cs', hc1, hc2⟩ := hel i (by omega)
      obtain ⟨y, e, hw⟩ := part_of hc2
      subst e
      exact ⟨y, hc1, hw⟩)
    refine ⟨(List.range l0).map X, some a, m, by simp, fun x hx => ?_, ?_⟩
    · obtain ⟨j, hj, rfl⟩ := List.mem_map.1 hx
      exact (hX j (by simpa using hj)).2
    by_cases h0 : l0 = 0
    · left; subst h0; rfl
    · right
      obtain ⟨b, o, spot⟩ := a
      have hspot : spot = none := by
        have h5 := (World.cells?_some (hX 0 (by omega)).1).2.2 0 (by decide)
        have h6 : W.cell? ((⟨b, o, spot⟩ : Addr)) = some (.int .i64 (X 0).cm) := by simpa [Addr.add, Pt.arr] using h5
        exact World.cell?_spot h6
      subst hspot
      refine ⟨b, o, rfl, fun j x hj => ?_⟩
      have hjl : j < l0 := by
        have := (List.getElem?_eq_some_iff.1 hj).1
        simpa using this
      have hxe : x = X j := by simpa [hjl] using hj.symm
      subst hxe
      have h7 := (hX j hjl).1
      rw [add_at2] at h7
      exact six_of h7
/-- A call that came in. -/
structure ActI where
  kind : Int
  n : Int
  cm : Int
  p : Pt
  cell : Int
  value : Int
def ActI.wf (x : ActI) : Prop := I64 x.n ∧ I64 x.p.t
def ActI.arr (x : ActI) : Array Value := #[.int .i64 x.kind, .int .i64 x.n, .int .i64 x.cm, .int .i64 x.p.a, .int .i64 x.p.b, .int .i64 x.p.c, .int .i64 x.p.d, .int .i64 x.p.t, .int .i64 x.cell, .int .i64 x.value]
theorem cells36 : Tryd.prog.cellsOf 36 = 10 := by kernel_rfl
set_option maxRecDepth 100000 in
theorem act_of {H : Type} {enc : TypeId × Value → H} {W : World} {fuel : Nat} {cs : List Value} {x : DataW H × List MemPlace} (h : DataW.trod enc Tryd.prog W 0 (fun _ => true) true fuel 36 cs = some x) :
    ∃ y : ActI, cs = y.arr.toList ∧ y.wf := by
  obtain ⟨xs, n, _, _, hl, hx, hf⟩ := DataW.trod_struct Tryd.underlying36 h
  rw [cells36] at hl
  match cs, hl with
  | [c0, c1, c2, c3, c4, c5, c6, c7, c8, c9], _ =>
    have f0 := hf 0 _ rfl
    have f1 := hf 1 _ rfl
    have f2 := hf 2 _ rfl
    have f3 := hf 3 _ rfl
    have f4 := hf 4 _ rfl
    obtain ⟨x0, h0⟩ : ∃ x0, xs[0]? = some x0 := ⟨xs[0]'(by rw [hx]; decide), List.getElem?_eq_getElem _⟩
    obtain ⟨x1, h1⟩ : ∃ x1, xs[1]? = some x1 := ⟨xs[1]'(by rw [hx]; decide), List.getElem?_eq_getElem _⟩
    obtain ⟨x2, h2⟩ : ∃ x2, xs[2]? = some x2 := ⟨xs[2]'(by rw [hx]; decide), List.getElem?_eq_getElem _⟩
    obtain ⟨x3, h3⟩ : ∃ x3, xs[3]? = some x3 := ⟨xs[3]'(by rw [hx]; decide), List.getElem?_eq_getElem _⟩
    obtain ⟨x4, h4⟩ : ∃ x4, xs[4]? = some x4 := ⟨xs[4]'(by rw [hx]; decide), List.getElem?_eq_getElem _⟩
    have g0 : DataW.trod enc Tryd.prog W 0 (fun _ => true) true n 3 [c0] = some x0 := by rw [← h0, ← f0]; rfl
    have g1 : DataW.trod enc Tryd.prog W 0 (fun _ => true) true n 3 [c1] = some x1 := by rw [← h1, ← f1]; rfl
    have g2 : DataW.trod enc Tryd.prog W 0 (fun _ => true) true n 34 [c2, c3, c4, c5, c6, c7] = some x2 := by rw [← h2, ← f2]; rfl
    have g3 : DataW.trod enc Tryd.prog W 0 (fun _ => true) true n 3 [c8] = some x3 := by rw [← h3, ← f3]; rfl
    have g4 : DataW.trod enc Tryd.prog W 0 (fun _ => true) true n 3 [c9] = some x4 := by rw [← h4, ← f4]; rfl
    obtain ⟨k, e0, _, _⟩ := DataW.trod_int Tryd.underlying3 g0
    obtain ⟨m, e1, _, w1⟩ := DataW.trod_int Tryd.underlying3 g1
    obtain ⟨y, e2, w2⟩ := part_of g2
    obtain ⟨ce, e3, _, _⟩ := DataW.trod_int Tryd.underlying3 g3
    obtain ⟨va, e4, _, _⟩ := DataW.trod_int Tryd.underlying3 g4
    simp [Pt.arr] at e0 e1 e2 e3 e4
    obtain ⟨rfl, rfl, rfl, rfl, rfl, rfl⟩ := e2
    exact ⟨⟨k, m, y.cm, y.p, ce, va⟩, by rw [e0, e1, e3, e4]; rfl, w1, w2⟩
/-- The ten cells of a call. -/
def Ten (W : World) (b o : Nat) (x : ActI) : Prop := ∀ i, i < 10 → W.cell? ⟨b, o + i, none⟩ = x.arr[i]?
theorem Ten.later {W W' : World} {b o : Nat} {x : ActI} (h : Ten W b o x) (hb : Below W.heap.size W W') : Ten W' b o x := fun i hi => by
  have h1 := h i hi
  obtain ⟨u, hu⟩ : ∃ u, x.arr[i]? = some u := ⟨x.arr[i]'(by simp [ActI.arr]; omega), Array.getElem?_eq_getElem _⟩
  rw [hu] at h1 ⊢
  exact seen hb (Nat.le_refl _) h1
def ActRow (W : World) (v : Value) (cl : List ActI) : Prop := ∃ a c, v = .slice a cl.length c ∧ (∀ x ∈ cl, x.wf) ∧ (cl = [] ∨ ∃ b o, a = some ⟨b, o, none⟩ ∧ ∀ (j : Nat) x, cl[j]? = some x → Ten W b (o + j * 10) x)
set_option maxRecDepth 100000 in
theorem acts_of {H : Type} {enc : TypeId × Value → H} {W : World} {v : Value} {d : DataW H} {ps : List MemPlace} (h : DataW.Trod enc Tryd.prog W 0 (fun _ => true) true 22 v d ps) (hv : ∃ a l c, v = .slice a l c) :
    ∃ cl, ActRow W v cl := by
  obtain ⟨fuel, hf⟩ := h
  obtain ⟨a0, l0, c0, rfl⟩ := hv
  rcases Deep.open_slice Tryd.underlying22 hf with ⟨h1, h2⟩ | ⟨a, len, cap, m, n, D, Pl, h1, _, hl, _, hm, hx, hel⟩
  · simp [Value.cells] at h1
    obtain ⟨rfl, rfl, rfl⟩ := h1
    exact ⟨[], none, 0, rfl, by simp, .inl rfl⟩
  · simp [Value.cells] at h1
    obtain ⟨rfl, rfl, rfl⟩ := h1
    simp only [if_true] at hm
    subst hm
    rw [cells36] at hel
    haveI : Inhabited ActI := ⟨⟨0, 0, 0, Pt.zero, 0, 0⟩⟩
    obtain ⟨X, hX⟩ := Deep.choose_lt (α := ActI) (n := l0) (p := fun i q => W.cells? 0 (a.add (i * 10)) 10 = some q.arr.toList ∧ q.wf) (fun i hi => by
      obtain ⟨cs', hc1, hc2⟩ := hel i (by omega)
      obtain ⟨y, e, hw⟩ := act_of hc2
      subst e
      exact ⟨y, hc1, hw⟩)
    refine ⟨(List.range l0).map X, some a, m, by simp, fun x hx => ?_, ?_⟩
    · obtain ⟨j, hj, rfl⟩ := List.mem_map.1 hx
      exact (hX j (by simpa using hj)).2
    by_cases h0 : l0 = 0
    · left; subst h0; rfl
    · right
      obtain ⟨b, o, spot⟩ := a
      have hspot : spot = none := by
        have h5 := (World.cells?_some (hX 0 (by omega)).1).2.2 0 (by decide)
        have h6 : W.cell? ((⟨b, o, spot⟩ : Addr)) = some (.int .i64 (X 0).kind) := by simpa [Addr.add, ActI.arr] using h5
        exact World.cell?_spot h6
      subst hspot
      refine ⟨b, o, rfl, fun j x hj => ?_⟩
      have hjl : j < l0 := by
        have := (List.getElem?_eq_some_iff.1 hj).1
        simpa using this
      have hxe : x = X j := by simpa [hjl] using hj.symm
      subst hxe
      have h7 := (World.cells?_some (hX j hjl).1).2.2
      intro i hi
      have := h7 i hi
      rw [Deep.add_add, add_at2] at this
      rw [show o + j * 10 + i = o + (j * 10 + i) by omega, this]
      simp
end Go.Proofs.YtpglanlpnapddaaDoor
