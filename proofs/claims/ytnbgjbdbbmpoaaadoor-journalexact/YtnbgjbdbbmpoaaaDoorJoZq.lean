/- What comes in, read: entries, calls. -/
import Derived.Test.YtnbgjbdbbmpoaaaDoorJoZp
namespace Go.Proofs.YtnbgjbdbbmpoaaaDoor.Jo
open Go.ChangeShapes Go.WideShapes Go.ChangeAt Go.RowKit Go.Shelf
theorem cInt : Tryd.prog.cellsOf 3 = 1 := by kernel_rfl
theorem cA4 : Tryd.prog.cellsOf 33 = 4 := by kernel_rfl
theorem cPart : Tryd.prog.cellsOf 35 = 6 := by kernel_rfl
theorem cUndo : Tryd.prog.cellsOf 38 = 11 := by kernel_rfl
theorem cAct : Tryd.prog.cellsOf 40 = 13 := by kernel_rfl
theorem vals_of : ∀ (cs : List Value), (∀ c ∈ cs, ∃ d, c = .int .i64 d ∧ I64 d) → ∃ ds : List Int, cs = ds.map (fun d => Value.int .i64 d) ∧ ∀ d ∈ ds, I64 d
  | [], _ => ⟨[], rfl, fun d hd => by simp at hd⟩
  | c :: cs, h => by
    obtain ⟨d, rfl, hd⟩ := h c (List.mem_cons_self ..)
    obtain ⟨ds, rfl, hds⟩ := vals_of cs fun x hx => h x (List.mem_cons_of_mem _ hx)
    exact ⟨d :: ds, rfl, fun x hx => by rcases List.mem_cons.1 hx with rfl | hx; exact hd; exact hds x hx⟩
set_option maxRecDepth 100000 in
theorem nums_of {H : Type} {enc : TypeId × Value → H} {W : World} {fuel : Nat} {t : TypeId} {n : Nat} {cs : List Value} {x : DataW H × List MemPlace} (ht : Tryd.prog.underlying t = some (.array n 3)) (hc : Tryd.prog.cellsOf t = n) (h : DataW.trod enc Tryd.prog W 0 (fun _ => true) true fuel t cs = some x) :
    ∃ ds : List Int, cs = ds.map (fun d => Value.int .i64 d) ∧ (∀ d ∈ ds, I64 d) ∧ ds.length = n := by
  obtain ⟨xs, m, _, _, hl, hx, hf⟩ := DataW.trod_array ht h
  rw [hc] at hl
  simp only [cInt] at hf
  obtain ⟨ds, e, hds⟩ := vals_of cs fun c hcm => by
    obtain ⟨i, hi, rfl⟩ := List.getElem_of_mem hcm
    have h2 := hf i (by omega)
    rw [show (cs.drop (i * 1)).take 1 = [cs[i]] by rw [Nat.mul_one, List.drop_eq_getElem_cons hi]; rfl] at h2
    obtain ⟨y, hy⟩ : ∃ y, xs[i]? = some y := ⟨xs[i]'(by omega), List.getElem?_eq_getElem _⟩
    rw [hy] at h2
    obtain ⟨d, e, _, w⟩ := DataW.trod_int Tryd.underlying3 h2
    exact ⟨d, by simpa using e, w⟩
  exact ⟨ds, e, hds, by have := congrArg List.length e; simp at this; omega⟩
def PtOk (p : Prt) : Prop := I64 p.c ∧ I64 p.t
set_option maxRecDepth 100000 in
theorem part_of {H : Type} {enc : TypeId × Value → H} {W : World} {fuel : Nat} {cs : List Value} {x : DataW H × List MemPlace} (h : DataW.trod enc Tryd.prog W 0 (fun _ => true) true fuel 35 cs = some x) :
    ∃ y : Prt, cs = y.arr.toList ∧ PtOk y := by
  obtain ⟨xs, n, _, _, hl, hx, hf⟩ := DataW.trod_struct Tryd.underlying35 h
  rw [cPart] at hl
  match cs, hl with
  | [c0, c1, c2, c3, c4, c5], _ =>
    have f0 := hf 0 _ rfl
    have f1 := hf 1 _ rfl
    have f2 := hf 2 _ rfl
    obtain ⟨x0, h0⟩ : ∃ x0, xs[0]? = some x0 := ⟨xs[0]'(by rw [hx]; decide), List.getElem?_eq_getElem _⟩
    obtain ⟨x1, h1⟩ : ∃ x1, xs[1]? = some x1 := ⟨xs[1]'(by rw [hx]; decide), List.getElem?_eq_getElem _⟩
    obtain ⟨x2, h2⟩ : ∃ x2, xs[2]? = some x2 := ⟨xs[2]'(by rw [hx]; decide), List.getElem?_eq_getElem _⟩
    have g0 : DataW.trod enc Tryd.prog W 0 (fun _ => true) true n 3 [c0] = some x0 := by rw [← h0, ← f0]; rfl
    have g1 : DataW.trod enc Tryd.prog W 0 (fun _ => true) true n 33 [c1, c2, c3, c4] = some x1 := by rw [← h1, ← f1]; rfl
    have g2 : DataW.trod enc Tryd.prog W 0 (fun _ => true) true n 3 [c5] = some x2 := by rw [← h2, ← f2]; rfl
    obtain ⟨k, e0, _, w0⟩ := DataW.trod_int Tryd.underlying3 g0
    obtain ⟨ds, e1, hds, hdl⟩ := nums_of Tryd.underlying33 cA4 g1
    obtain ⟨t, e2, _, w2⟩ := DataW.trod_int Tryd.underlying3 g2
    match ds, hdl with
    | [d0, d1, d2, d3], _ =>
      simp at e0 e1 e2
      obtain ⟨rfl, rfl, rfl, rfl⟩ := e1
      exact ⟨⟨k, d0, d1, d2, d3, t⟩, by rw [e0, e2]; rfl, w0, w2⟩
theorem six_of {W : World} {b o : Nat} {y : Prt} (h : W.cells? 0 ⟨b, o, none⟩ 6 = some y.arr.toList) : Six W b o y := by
  have h5 := (World.cells?_some h).2.2
  have C : ∀ i, i < 6 → W.cell? ⟨b, o + i, none⟩ = y.arr[i]? := fun i hi => by
    have := h5 i hi
    rw [add_plain3] at this
    rw [this]
    simp
  exact ⟨C 0 (by decide), C 1 (by decide), C 2 (by decide), C 3 (by decide), C 4 (by decide), C 5 (by decide)⟩
set_option maxRecDepth 100000 in
theorem psrc_in {H : Type} {enc : TypeId × Value → H} {W : World} {fuel : Nat} {c : Value} {d : DataW H × List MemPlace} (hf : DataW.trod enc Tryd.prog W 0 (fun _ => true) true fuel 36 [c] = some d) :
    ∃ l, PSrc W c l := by
  rcases Deep.open_slice Tryd.underlying36 hf with ⟨h1, h2⟩ | ⟨a, len, cap, m, n, D, Pl, h1, _, hl, _, hm, hx, hel⟩
  · exact ⟨[], .inl ⟨by simpa using h1, rfl⟩⟩
  · simp only [if_true] at hm
    subst hm
    rw [cPart] at hel
    haveI : Inhabited Prt := ⟨Prt.zero⟩
    obtain ⟨X, hX⟩ := Deep.choose_lt (α := Prt) (n := len) (p := fun i q => W.cells? 0 (a.add (i * 6)) 6 = some q.arr.toList ∧ PtOk q) (fun i hi => by
      obtain ⟨cs', hc1, hc2⟩ := hel i (by omega)
      obtain ⟨y, e, hw⟩ := part_of hc2
      subst e
      exact ⟨y, hc1, hw⟩)
    refine ⟨(List.range len).map X, .inr ⟨a, m, by simpa using h1, ?_⟩⟩
    by_cases h0 : len = 0
    · left; subst h0; rfl
    · right
      obtain ⟨b, o, spot⟩ := a
      have hspot : spot = none := by
        have h5 := (World.cells?_some (hX 0 (by omega)).1).2.2 0 (by decide)
        have h6 : W.cell? ((⟨b, o, spot⟩ : Addr)) = some (.int .i64 (X 0).c) := by simpa [Addr.add, Prt.arr] using h5
        exact World.cell?_spot h6
      subst hspot
      refine ⟨b, o, rfl, fun j x hj => ?_⟩
      have hjl : j < len := by
        have := (List.getElem?_eq_some_iff.1 hj).1
        simpa using this
      have hxe : x = X j := by simpa [hjl] using hj.symm
      subst hxe
      have h7 := (hX j hjl).1
      rw [add_plain3] at h7
      exact six_of h7
/-- What is known of an entry that came in. -/
def UIn (W : World) (y : Ue) : Prop := y.ok ∧ PSrc W y.pv y.ps
set_option maxRecDepth 100000 in
theorem und_of {H : Type} {enc : TypeId × Value → H} {W : World} {fuel : Nat} {cs : List Value} {x : DataW H × List MemPlace} (h : DataW.trod enc Tryd.prog W 0 (fun _ => true) true fuel 38 cs = some x) :
    ∃ y : Ue, cs = y.arr.toList ∧ UIn W y := by
  obtain ⟨xs, n, _, _, hl, hx, hf⟩ := DataW.trod_struct Tryd.underlying38 h
  rw [cUndo] at hl
  match cs, hl with
  | [c0, c1, c2, c3, c4, c5, c6, c7, c8, c9, c10], _ =>
    have f0 := hf 0 _ rfl
    have f1 := hf 1 _ rfl
    have f2 := hf 2 _ rfl
    have f3 := hf 3 _ rfl
    have f4 := hf 4 _ rfl
    have f5 := hf 5 _ rfl
    obtain ⟨x0, h0⟩ : ∃ x, xs[0]? = some x := ⟨xs[0]'(by rw [hx]; decide), List.getElem?_eq_getElem _⟩
    obtain ⟨x1, h1⟩ : ∃ x, xs[1]? = some x := ⟨xs[1]'(by rw [hx]; decide), List.getElem?_eq_getElem _⟩
    obtain ⟨x2, h2⟩ : ∃ x, xs[2]? = some x := ⟨xs[2]'(by rw [hx]; decide), List.getElem?_eq_getElem _⟩
    obtain ⟨x3, h3⟩ : ∃ x, xs[3]? = some x := ⟨xs[3]'(by rw [hx]; decide), List.getElem?_eq_getElem _⟩
    obtain ⟨x4, h4⟩ : ∃ x, xs[4]? = some x := ⟨xs[4]'(by rw [hx]; decide), List.getElem?_eq_getElem _⟩
    obtain ⟨x5, h5⟩ : ∃ x, xs[5]? = some x := ⟨xs[5]'(by rw [hx]; decide), List.getElem?_eq_getElem _⟩
    have g0 : DataW.trod enc Tryd.prog W 0 (fun _ => true) true n 3 [c0] = some x0 := by rw [← h0, ← f0]; rfl
    have g1 : DataW.trod enc Tryd.prog W 0 (fun _ => true) true n 3 [c1] = some x1 := by rw [← h1, ← f1]; rfl
    have g2 : DataW.trod enc Tryd.prog W 0 (fun _ => true) true n 35 [c2, c3, c4, c5, c6, c7] = some x2 := by rw [← h2, ← f2]; rfl
    have g3 : DataW.trod enc Tryd.prog W 0 (fun _ => true) true n 36 [c8] = some x3 := by rw [← h3, ← f3]; rfl
    have g4 : DataW.trod enc Tryd.prog W 0 (fun _ => true) true n 3 [c9] = some x4 := by rw [← h4, ← f4]; rfl
    have g5 : DataW.trod enc Tryd.prog W 0 (fun _ => true) true n 3 [c10] = some x5 := by rw [← h5, ← f5]; rfl
    obtain ⟨a0, e0, _, w0⟩ := DataW.trod_int Tryd.underlying3 g0
    obtain ⟨a1, e1, _, w1⟩ := DataW.trod_int Tryd.underlying3 g1
    obtain ⟨a4, e4, _, w4⟩ := DataW.trod_int Tryd.underlying3 g4
    obtain ⟨a5, e5, _, w5⟩ := DataW.trod_int Tryd.underlying3 g5
    obtain ⟨p, e2, w2⟩ := part_of g2
    obtain ⟨ps, w3⟩ := psrc_in g3
    simp [Prt.arr] at e0 e1 e2 e4 e5
    obtain ⟨rfl, rfl, rfl, rfl, rfl, rfl⟩ := e2
    exact ⟨⟨a0, a1, p, c8, ps, a4, a5⟩, by rw [e0, e1, e4, e5]; rfl, ⟨w1, w2.1, w4⟩, w3⟩
/-- An entry, out of its reading. -/
theorem undo_of {H : Type} {enc : TypeId × Value → H} {W : World} {v : Value} {d : DataW H} {ps : List MemPlace} (h : DataW.Trod enc Tryd.prog W 0 (fun _ => true) true 38 v d ps) (hv : ∃ cs, v = .agg cs) :
    ∃ y : Ue, v = .agg #[.int .i64 y.k, .int .i64 y.id, .int .i64 y.p.c, .int .i64 y.p.v0, .int .i64 y.p.v1, .int .i64 y.p.v2, .int .i64 y.p.v3, .int .i64 y.p.t, y.pv, .int .i64 y.n, .int .i64 y.o] ∧ UIn W y := by
  obtain ⟨fuel, hf⟩ := h
  obtain ⟨arr, rfl⟩ := hv
  obtain ⟨y, e, q⟩ := und_of hf
  obtain ⟨l⟩ := arr
  simp [Value.cells] at e
  subst e
  exact ⟨y, rfl, q⟩
/-- A call. -/
structure ActI where
  kd : Int
  n : Int
  u : Ue
def ActI.arr (x : ActI) : Array Value := #[.int .i64 x.kd, .int .i64 x.n, .int .i64 x.u.k, .int .i64 x.u.id, .int .i64 x.u.p.c, .int .i64 x.u.p.v0, .int .i64 x.u.p.v1, .int .i64 x.u.p.v2, .int .i64 x.u.p.v3, .int .i64 x.u.p.t, x.u.pv, .int .i64 x.u.n, .int .i64 x.u.o]
set_option maxRecDepth 100000 in
theorem act_of {H : Type} {enc : TypeId × Value → H} {W : World} {fuel : Nat} {cs : List Value} {x : DataW H × List MemPlace} (h : DataW.trod enc Tryd.prog W 0 (fun _ => true) true fuel 40 cs = some x) :
    ∃ y : ActI, cs = y.arr.toList ∧ UIn W y.u ∧ I64 y.n := by
  obtain ⟨xs, n, _, _, hl, hx, hf⟩ := DataW.trod_struct Tryd.underlying40 h
  rw [cAct] at hl
  match cs, hl with
  | [c0, c1, c2, c3, c4, c5, c6, c7, c8, c9, c10, c11, c12], _ =>
    have f0 := hf 0 _ rfl
    have f1 := hf 1 _ rfl
    have f2 := hf 2 _ rfl
    obtain ⟨x0, h0⟩ : ∃ x, xs[0]? = some x := ⟨xs[0]'(by rw [hx]; decide), List.getElem?_eq_getElem _⟩
    obtain ⟨x1, h1⟩ : ∃ x, xs[1]? = some x := ⟨xs[1]'(by rw [hx]; decide), List.getElem?_eq_getElem _⟩
    obtain ⟨x2, h2⟩ : ∃ x, xs[2]? = some x := ⟨xs[2]'(by rw [hx]; decide), List.getElem?_eq_getElem _⟩
    have g0 : DataW.trod enc Tryd.prog W 0 (fun _ => true) true n 3 [c0] = some x0 := by rw [← h0, ← f0]; rfl
    have g1 : DataW.trod enc Tryd.prog W 0 (fun _ => true) true n 3 [c1] = some x1 := by rw [← h1, ← f1]; rfl
    have g2 : DataW.trod enc Tryd.prog W 0 (fun _ => true) true n 38 [c2, c3, c4, c5, c6, c7, c8, c9, c10, c11, c12] = some x2 := by rw [← h2, ← f2]; rfl
    obtain ⟨a0, e0, _, w0⟩ := DataW.trod_int Tryd.underlying3 g0
    obtain ⟨a1, e1, _, w1⟩ := DataW.trod_int Tryd.underlying3 g1
    obtain ⟨u, e2, w2⟩ := und_of g2
    simp [Ue.arr] at e0 e1 e2
    obtain ⟨rfl, rfl, rfl, rfl, rfl, rfl, rfl, rfl, rfl, rfl, rfl⟩ := e2
    exact ⟨⟨a0, a1, u⟩, by rw [e0, e1]; rfl, w2, w1⟩
/-- A row of calls. -/
def ActRow (W : World) (v : Value) (xs : List ActI) : Prop := ∃ a c, v = .slice a xs.length c ∧ (∀ x ∈ xs, UIn W x.u ∧ I64 x.n) ∧ (xs = [] ∨ ∃ b o, a = some ⟨b, o, none⟩ ∧ ∀ (j : Nat) (x : ActI), xs[j]? = some x → ∀ i, i < 13 → W.cell? ⟨b, o + j * 13 + i, none⟩ = x.arr[i]?)
theorem ActRow.later {W W' : World} {v : Value} {xs : List ActI} (h : ActRow W v xs) (hb : Below W.heap.size W W') : ActRow W' v xs := by
  obtain ⟨a, c, h1, h0, h2⟩ := h
  refine ⟨a, c, h1, fun x hx => ⟨⟨(h0 x hx).1.1, (h0 x hx).1.2.later hb⟩, (h0 x hx).2⟩, h2.imp id ?_⟩
  rintro ⟨b, o, h3, h4⟩
  refine ⟨b, o, h3, fun j x hx i hi => ?_⟩
  have q := h4 j x hx i hi
  obtain ⟨u, hu⟩ : ∃ u, x.arr[i]? = some u := ⟨x.arr[i]'(by simpa [ActI.arr] using hi), Array.getElem?_eq_getElem _⟩
  rw [hu] at q ⊢
  exact seen hb (Nat.le_refl _) q
theorem acts_of {H : Type} {enc : TypeId × Value → H} {W : World} {v : Value} {d : DataW H} {ps : List MemPlace} (h : DataW.Trod enc Tryd.prog W 0 (fun _ => true) true 22 v d ps) (hv : ∃ a l c, v = .slice a l c) :
    ∃ cl, ActRow W v cl := by
  obtain ⟨fuel, hf⟩ := h
  obtain ⟨a0, l0, c0, rfl⟩ := hv
  rcases Deep.open_slice Tryd.underlying22 hf with ⟨h1, h2⟩ | ⟨a, len, cap, m, n, D, Pl, h1, _, hl, _, hm, hx, hel⟩
  · simp [Value.cells] at h1
    obtain ⟨rfl, rfl, rfl⟩ := h1
    exact ⟨[], none, 0, rfl, by simp, .inl rfl⟩
  · simp [Value.cells] at h1
    obtain ⟨rfl, rfl, rfl⟩ := h1
    simp only [if_true] at hm
    subst hm
    rw [cAct] at hel
    haveI : Inhabited ActI := ⟨⟨0, 0, en 0 0 0 0 0 0⟩⟩
    obtain ⟨X, hX⟩ := Deep.choose_lt (α := ActI) (n := l0) (p := fun i q => W.cells? 0 (a.add (i * 13)) 13 = some q.arr.toList ∧ UIn W q.u ∧ I64 q.n) (fun i hi => by
      obtain ⟨cs', hc1, hc2⟩ := hel i (by omega)
      obtain ⟨y, e, hy⟩ := act_of hc2
      subst e
      exact ⟨y, hc1, hy⟩)
    refine ⟨(List.range l0).map X, some a, m, by simp, fun x hx => ?_, ?_⟩
    · obtain ⟨i, hi, rfl⟩ := List.mem_map.1 hx
      exact (hX i (List.mem_range.1 hi)).2
    by_cases h0 : l0 = 0
    · left; subst h0; rfl
    · right
      obtain ⟨b, o, spot⟩ := a
      have hspot : spot = none := by
        have h5 := (World.cells?_some (hX 0 (by omega)).1).2.2 0 (by decide)
        have h6 : W.cell? ((⟨b, o, spot⟩ : Addr)) = some (.int .i64 (X 0).kd) := by simpa [Addr.add, ActI.arr] using h5
        exact World.cell?_spot h6
      subst hspot
      refine ⟨b, o, rfl, fun j x hj i hi => ?_⟩
      have hjl : j < l0 := by
        have := (List.getElem?_eq_some_iff.1 hj).1
        simpa using this
      have hxe : x = X j := by simpa [hjl] using hj.symm
      subst hxe
      have h5 := (World.cells?_some (hX j hjl).1).2.2 i hi
      rw [Deep.add_add, add_plain3] at h5
      rw [Nat.add_assoc, h5]
      simp
end Go.Proofs.YtnbgjbdbbmpoaaaDoor.Jo
