/- AtlasExact; the reading of its calls. -/
import Derived.Test.YtmiaepjlifceeaaDoorCf
import Derived.Test.YtmiaepjlifceeaaDoorPb
namespace Go.Proofs.YtmiaepjlifceeaaDoor
open Go.ChangeShapes Go.WideShapes Go.ChangeAt Go.RowKit
theorem cells35 : Tryd.prog.cellsOf 35 = 5 := by kernel_rfl
set_option maxRecDepth 100000 in
theorem act_of {H : Type} {enc : TypeId × Value → H} {W : World} {fuel : Nat} {cs : List Value} {x : DataW H × List MemPlace} (h : DataW.trod enc Tryd.prog W 0 (fun _ => true) true fuel 35 cs = some x) :
    ∃ y : ActI, cs = y.arr.toList ∧ y.wf := by
  obtain ⟨xs, n, _, _, hl, hx, hf⟩ := DataW.trod_struct Tryd.underlying35 h
  rw [cells35] at hl
  match cs, hl with
  | [c0, c1, c2, c3, c4], _ =>
    have f0 := hf 0 _ rfl
    have f1 := hf 1 _ rfl
    have f2 := hf 2 _ rfl
    have f3 := hf 3 _ rfl
    have f4 := hf 4 _ rfl
    obtain ⟨x0, h0⟩ : ∃ x0, xs[0]? = some x0 := ⟨xs[0]'(by rw [hx]; decide), List.getElem?_eq_getElem _⟩
    obtain ⟨x1, h1⟩ : ∃ x1, xs[1]? = some x1 := ⟨xs[1]'(by rw [hx]; decide), List.getElem?_eq_getElem _⟩
    obtain ⟨x2, h2⟩ : ∃ x2, xs[2]? = some x2 := ⟨xs[2]'(by rw [hx]; decide), List.getElem?_eq_getElem _⟩
    obtain ⟨x3, h3⟩ : ∃ x3, xs[3]? = some x3 := ⟨xs[3]'(by rw [hx]; decide), List.getElem?_eq_getElem _⟩
    obtain ⟨x4, h4⟩ : ∃ x4, xs[4]? = some x4 := ⟨xs[4]'(by rw [hx]; decide), List.getElem?_eq_getElem _⟩
    have g0 : DataW.trod enc Tryd.prog W 0 (fun _ => true) true n 3 [c0] = some x0 := by rw [← h0, ← f0]; rfl
    have g1 : DataW.trod enc Tryd.prog W 0 (fun _ => true) true n 33 [c1] = some x1 := by rw [← h1, ← f1]; rfl
    have g2 : DataW.trod enc Tryd.prog W 0 (fun _ => true) true n 33 [c2] = some x2 := by rw [← h2, ← f2]; rfl
    have g3 : DataW.trod enc Tryd.prog W 0 (fun _ => true) true n 3 [c3] = some x3 := by rw [← h3, ← f3]; rfl
    have g4 : DataW.trod enc Tryd.prog W 0 (fun _ => true) true n 3 [c4] = some x4 := by rw [← h4, ← f4]; rfl
    obtain ⟨k, e0, _, _⟩ := DataW.trod_int Tryd.underlying3 g0
    obtain ⟨m, e1, _, w1⟩ := DataW.trod_int Tryd.underlying33 g1
    obtain ⟨y, e2, _, w2⟩ := DataW.trod_int Tryd.underlying33 g2
    obtain ⟨nd, e3, _, _⟩ := DataW.trod_int Tryd.underlying3 g3
    obtain ⟨nn, e4, _, _⟩ := DataW.trod_int Tryd.underlying3 g4
    obtain ⟨m', rfl, u1⟩ := u32_of w1
    obtain ⟨y', rfl, u2⟩ := u32_of w2
    simp at e0 e1 e2 e3 e4
    exact ⟨⟨k, m', y', nd, nn⟩, by rw [e0, e1, e2, e3, e4]; rfl, u1, u2⟩
set_option maxRecDepth 100000 in
theorem acts_of {H : Type} {enc : TypeId × Value → H} {W : World} {v : Value} {d : DataW H} {ps : List MemPlace} (h : DataW.Trod enc Tryd.prog W 0 (fun _ => true) true 22 v d ps) (hv : ∃ a l c, v = .slice a l c) :
    ∃ cl, ActRow W v cl := by
  obtain ⟨fuel, hf⟩ := h
  obtain ⟨a0, l0, c0, rfl⟩ := hv
  rcases Deep.open_slice Tryd.underlying22 hf with ⟨h1, h2⟩ | ⟨a, len, cap, m, n, D, Pl, h1, _, hl, _, hm, hx, hel⟩
  · simp [Value.cells] at h1
    obtain ⟨rfl, rfl, rfl⟩ := h1
    exact ⟨[], none, 0, rfl, by simp, .inl rfl⟩
  · simp [Value.cells] at h1
    obtain ⟨rfl, rfl, rfl⟩ := h1
    simp only [if_true] at hm
    subst hm
    rw [cells35] at hel
    haveI : Inhabited ActI := ⟨⟨0, 0, 0, 0, 0⟩⟩
    obtain ⟨X, hX⟩ := Deep.choose_lt (α := ActI) (n := l0) (p := fun i q => W.cells? 0 (a.add (i * 5)) 5 = some q.arr.toList ∧ q.wf) (fun i hi => by
      obtain ⟨cs', hc1, hc2⟩ := hel i (by omega)
      obtain ⟨y, e, hw⟩ := act_of hc2
      subst e
      exact ⟨y, hc1, hw⟩)
    refine ⟨(List.range l0).map X, some a, m, by simp, fun x hx => ?_, ?_⟩
    · obtain ⟨j, hj, rfl⟩ := List.mem_map.1 hx
      exact (hX j (by simpa using hj)).2
    by_cases h0 : l0 = 0
    · left; subst h0; rfl
    · right
      obtain ⟨b, o, spot⟩ := a
      have hspot : spot = none := by
        have h5 := (World.cells?_some (hX 0 (by omega)).1).2.2 0 (by decide)
        have h6 : W.cell? ((⟨b, o, spot⟩ : Addr)) = some (.int .i64 (X 0).kind) := by simpa [Addr.add, ActI.arr] using h5
        exact World.cell?_spot h6
      subst hspot
      refine ⟨b, o, rfl, fun j x hj => ?_⟩
      have hjl : j < l0 := by
        have := (List.getElem?_eq_some_iff.1 hj).1
        simpa using this
      have hxe : x = X j := by simpa [hjl] using hj.symm
      subst hxe
      have h7 := (World.cells?_some (hX j hjl).1).2.2
      intro i hi
      have := h7 i hi
      rw [Deep.add_add, add_at2] at this
      rw [show o + j * 5 + i = o + (j * 5 + i) by omega, this]
      simp
theorem exact_law (w : World) (Ad : Nat → Addr) (hE : Env w Ad) (c : Int) (v : Value) (cl : List ActI) (hA : ActRow w v cl) :
    Calls Tryd.prog 3 #[.int .i64 c, v] w fun e w' => e = .returned (.bool true) ∧ Below w.heap.size w w' := by
  by_cases h : c < 0 ∨ 16 < c
  · exact exact_out w Ad hE c v h
  · obtain ⟨n, rfl⟩ : ∃ n : Nat, c = (n : Int) := Int.eq_ofNat_of_zero_le (by omega)
    exact exact_in w Ad hE n (by omega) v cl hA
end Go.Proofs.YtmiaepjlifceeaaDoor
