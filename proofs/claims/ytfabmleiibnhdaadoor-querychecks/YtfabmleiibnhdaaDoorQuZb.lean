/- What comes in, read: arrays of one number; rows of parts. -/
import Derived.Test.YtfabmleiibnhdaaDoorQuZa
namespace Go.Proofs.YtfabmleiibnhdaaDoor.Qu
open Go.ChangeShapes Go.WideShapes Go.ChangeAt Go.RowKit
open Go.Proofs.YtfabmleiibnhdaaDoor.Rs (Prt PRow Six)
theorem cA1 : Tryd.prog.cellsOf 30 = 1 := by kernel_rfl
theorem agg_arr {P : Program} {W : World} {r : Reach} {b0 : Nat} {v : Value} {k e : TypeId} {n : Nat} (hu : P.underlying k = some (.array n e)) (h : Value.okWide P W r b0 k v) : ∃ cs, v = .agg cs := by
  simp only [Value.okWide, hu] at h
  obtain ⟨cs, h1, _⟩ := h
  exact ⟨cs, h1⟩
theorem one_of {H : Type} {enc : TypeId × Value → H} {W : World} {v : Value} {d : DataW H} {ps : List MemPlace} (h : DataW.Trod enc Tryd.prog W 0 (fun _ => true) true 30 v d ps) (hv : ∃ cs, v = .agg cs) : ∃ n : Int, v = .agg #[.int .i64 n] ∧ J64 n := by
  obtain ⟨fuel, hf⟩ := h
  obtain ⟨arr, rfl⟩ := hv
  obtain ⟨ds, e, hds, hl⟩ := nums_of Tryd.underlying30 cA1 hf
  match ds, hl with
  | [n], _ =>
    obtain ⟨l⟩ := arr
    simp [Value.cells] at e
    subst e
    exact ⟨n, rfl, hds n (by simp)⟩
theorem cA4 : Tryd.prog.cellsOf 53 = 4 := by kernel_rfl
theorem cPart : Tryd.prog.cellsOf 55 = 6 := by kernel_rfl
def PtOk (p : Prt) : Prop := J64 p.c ∧ J64 p.t
set_option maxRecDepth 100000 in
theorem part_of {H : Type} {enc : TypeId × Value → H} {W : World} {fuel : Nat} {cs : List Value} {x : DataW H × List MemPlace} (h : DataW.trod enc Tryd.prog W 0 (fun _ => true) true fuel 55 cs = some x) :
    ∃ y : Prt, cs = y.arr.toList ∧ PtOk y := by
  obtain ⟨xs, n, _, _, hl, hx, hf⟩ := DataW.trod_struct Tryd.underlying55 h
  rw [cPart] at hl
  match cs, hl with
  | [c0, c1, c2, c3, c4, c5], _ =>
    have f0 := hf 0 _ rfl
    have f1 := hf 1 _ rfl
    have f2 := hf 2 _ rfl
    obtain ⟨x0, h0⟩ : ∃ x0, xs[0]? = some x0 := ⟨xs[0]'(by rw [hx]; decide), List.getElem?_eq_getElem _⟩
    obtain ⟨x1, h1⟩ : ∃ x1, xs[1]? = some x1 := ⟨xs[1]'(by rw [hx]; decide), List.getElem?_eq_getElem _⟩
    obtain ⟨x2, h2⟩ : ∃ x2, xs[2]? = some x2 := ⟨xs[2]'(by rw [hx]; decide), List.getElem?_eq_getElem _⟩
    have g0 : DataW.trod enc Tryd.prog W 0 (fun _ => true) true n 3 [c0] = some x0 := by rw [← h0, ← f0]; rfl
    have g1 : DataW.trod enc Tryd.prog W 0 (fun _ => true) true n 53 [c1, c2, c3, c4] = some x1 := by rw [← h1, ← f1]; rfl
    have g2 : DataW.trod enc Tryd.prog W 0 (fun _ => true) true n 3 [c5] = some x2 := by rw [← h2, ← f2]; rfl
    obtain ⟨k, e0, _, w0⟩ := DataW.trod_int Tryd.underlying3 g0
    obtain ⟨ds, e1, hds, hdl⟩ := nums_of Tryd.underlying53 cA4 g1
    obtain ⟨t, e2, _, w2⟩ := DataW.trod_int Tryd.underlying3 g2
    match ds, hdl with
    | [d0, d1, d2, d3], _ =>
      simp at e0 e1 e2
      obtain ⟨rfl, rfl, rfl, rfl⟩ := e1
      exact ⟨⟨k, d0, d1, d2, d3, t⟩, by rw [e0, e2]; rfl, w0, w2⟩
theorem add_pl (b o j : Nat) : (⟨b, o, none⟩ : Addr).add j = ⟨b, o + j, none⟩ := by unfold Addr.add; split <;> simp_all
theorem six_of {W : World} {b o : Nat} {y : Prt} (h : W.cells? 0 ⟨b, o, none⟩ 6 = some y.arr.toList) : Six W b o y := by
  have h5 := (World.cells?_some h).2.2
  have C : ∀ i, i < 6 → W.cell? ⟨b, o + i, none⟩ = y.arr[i]? := fun i hi => by
    have := h5 i hi
    rw [add_pl] at this
    rw [this]
    simp
  exact ⟨C 0 (by decide), C 1 (by decide), C 2 (by decide), C 3 (by decide), C 4 (by decide), C 5 (by decide)⟩
set_option maxRecDepth 100000 in
theorem parts_of {H : Type} {enc : TypeId × Value → H} {W : World} {v : Value} {d : DataW H} {ps : List MemPlace} (h : DataW.Trod enc Tryd.prog W 0 (fun _ => true) true 31 v d ps) (hv : ∃ a l c, v = .slice a l c) :
    ∃ l, PRow W v l ∧ ∀ p ∈ l, J64 p.c ∧ J64 p.t := by
  obtain ⟨fuel, hf⟩ := h
  obtain ⟨a0, l0, c0, rfl⟩ := hv
  rcases Deep.open_slice Tryd.underlying31 hf with ⟨h1, h2⟩ | ⟨a, len, cap, m, n, D, Pl, h1, _, hl, _, hm, hx, hel⟩
  · simp [Value.cells] at h1
    obtain ⟨rfl, rfl, rfl⟩ := h1
    exact ⟨[], ⟨none, 0, rfl, .inl rfl⟩, by simp⟩
  · simp [Value.cells] at h1
    obtain ⟨rfl, rfl, rfl⟩ := h1
    simp only [if_true] at hm
    subst hm
    rw [cPart] at hel
    haveI : Inhabited Prt := ⟨Prt.zero⟩
    obtain ⟨X, hX⟩ := Deep.choose_lt (α := Prt) (n := l0) (p := fun i q => W.cells? 0 (a.add (i * 6)) 6 = some q.arr.toList ∧ PtOk q) (fun i hi => by
      obtain ⟨cs', hc1, hc2⟩ := hel i (by omega)
      obtain ⟨y, e, hw⟩ := part_of hc2
      subst e
      exact ⟨y, hc1, hw⟩)
    refine ⟨(List.range l0).map X, ⟨some a, m, by simp, ?_⟩, fun x hx => ?_⟩
    · by_cases h0 : l0 = 0
      · left; subst h0; rfl
      · right
        obtain ⟨b, o, spot⟩ := a
        have hspot : spot = none := by
          have h5 := (World.cells?_some (hX 0 (by omega)).1).2.2 0 (by decide)
          have h6 : W.cell? ((⟨b, o, spot⟩ : Addr)) = some (.int .i64 (X 0).c) := by simpa [Addr.add, Prt.arr] using h5
          exact World.cell?_spot h6
        subst hspot
        refine ⟨b, o, rfl, fun j x hj => ?_⟩
        have hjl : j < l0 := by
          have := (List.getElem?_eq_some_iff.1 hj).1
          simpa using this
        have hxe : x = X j := by simpa [hjl] using hj.symm
        subst hxe
        have h7 := (hX j hjl).1
        rw [add_pl] at h7
        exact six_of h7
    · obtain ⟨j, hj, rfl⟩ := List.mem_map.1 hx
      exact (hX j (by simpa using hj)).2
end Go.Proofs.YtfabmleiibnhdaaDoor.Qu
