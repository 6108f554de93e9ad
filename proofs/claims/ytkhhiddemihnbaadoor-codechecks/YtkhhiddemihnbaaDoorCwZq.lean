/- Rows of instructions and of turns, out of their reading. -/
import Derived.Test.YtkhhiddemihnbaaDoorCwZp
import Derived.Test.YtkhhiddemihnbaaDoorCwBb
namespace Go.Proofs.YtkhhiddemihnbaaDoor.Cw
open Go.ChangeShapes Go.WideShapes Go.ChangeAt Go.RowKit
theorem zqI : Tryd.prog.cellsOf 3 = 1 := by kernel_rfl
theorem zqB : Tryd.prog.cellsOf 4 = 1 := by kernel_rfl
theorem zqX : Tryd.prog.cellsOf 59 = 3 := by kernel_rfl
theorem add_plain3 (b o j : Nat) : (⟨b, o, none⟩ : Addr).add j = ⟨b, o + j, none⟩ := by unfold Addr.add; split <;> simp_all
set_option maxRecDepth 100000 in
theorem ins_of {H : Type} {enc : TypeId × Value → H} {W : World} {fuel : Nat} {cs : List Value} {x : DataW H × List MemPlace} (h : DataW.trod enc Tryd.prog W 0 (fun _ => true) true fuel 59 cs = some x) :
    ∃ y : Ins, cs = [.int .i64 y.1, .int .i64 y.2.1, .int .i64 y.2.2] ∧ J64 y.2.1 := by
  obtain ⟨xs, n, _, _, hl, hx, hf⟩ := DataW.trod_struct Tryd.underlying59 h
  rw [zqX] at hl
  match cs, hl with
  | [c0, c1, c2], _ =>
    have f0 := hf 0 _ rfl
    have f1 := hf 1 _ rfl
    have f2 := hf 2 _ rfl
    obtain ⟨x0, h0⟩ : ∃ x0, xs[0]? = some x0 := ⟨xs[0]'(by rw [hx]; decide), List.getElem?_eq_getElem _⟩
    obtain ⟨x1, h1⟩ : ∃ x1, xs[1]? = some x1 := ⟨xs[1]'(by rw [hx]; decide), List.getElem?_eq_getElem _⟩
    obtain ⟨x2, h2⟩ : ∃ x2, xs[2]? = some x2 := ⟨xs[2]'(by rw [hx]; decide), List.getElem?_eq_getElem _⟩
    have g0 : DataW.trod enc Tryd.prog W 0 (fun _ => true) true n 3 [c0] = some x0 := by rw [← h0, ← f0]; rfl
    have g1 : DataW.trod enc Tryd.prog W 0 (fun _ => true) true n 3 [c1] = some x1 := by rw [← h1, ← f1]; rfl
    have g2 : DataW.trod enc Tryd.prog W 0 (fun _ => true) true n 3 [c2] = some x2 := by rw [← h2, ← f2]; rfl
    obtain ⟨k, e0, _, _⟩ := DataW.trod_int Tryd.underlying3 g0
    obtain ⟨i, e1, _, w1⟩ := DataW.trod_int Tryd.underlying3 g1
    obtain ⟨m, e2, _, _⟩ := DataW.trod_int Tryd.underlying3 g2
    simp at e0 e1 e2
    exact ⟨(k, i, m), by rw [e0, e1, e2], w1⟩
set_option maxRecDepth 100000 in
theorem inss_of {H : Type} {enc : TypeId × Value → H} {W : World} {v : Value} {d : DataW H} {ps : List MemPlace} (h : DataW.Trod enc Tryd.prog W 0 (fun _ => true) true 40 v d ps) (hv : ∃ a l c, v = .slice a l c) :
    ∃ l, InsRow W v l := by
  obtain ⟨fuel, hf⟩ := h
  obtain ⟨a0, l0, c0, rfl⟩ := hv
  rcases Deep.open_slice Tryd.underlying40 hf with ⟨h1, h2⟩ | ⟨a, len, cap, m, n, D, Pl, h1, _, hl, _, hm, hx, hel⟩
  · simp [Value.cells] at h1
    obtain ⟨rfl, rfl, rfl⟩ := h1
    exact ⟨[], none, 0, rfl, by simp, .inl rfl⟩
  · simp [Value.cells] at h1
    obtain ⟨rfl, rfl, rfl⟩ := h1
    simp only [if_true] at hm
    subst hm
    rw [zqX] at hel
    haveI : Inhabited Ins := ⟨(0, 0, 0)⟩
    obtain ⟨X, hX⟩ := Deep.choose_lt (α := Ins) (n := l0) (p := fun i q => W.cells? 0 (a.add (i * 3)) 3 = some [.int .i64 q.1, .int .i64 q.2.1, .int .i64 q.2.2] ∧ J64 q.2.1) (fun i hi => by
      obtain ⟨cs', hc1, hc2⟩ := hel i (by omega)
      obtain ⟨y, e, hy⟩ := ins_of hc2
      subst e
      exact ⟨y, hc1, hy⟩)
    refine ⟨(List.range l0).map X, some a, m, by simp, fun x hx => ?_, ?_⟩
    · obtain ⟨j, hj, rfl⟩ := List.mem_map.1 hx
      exact (hX j (by simpa using hj)).2
    by_cases h0 : l0 = 0
    · left; subst h0; rfl
    · right
      obtain ⟨b, o, spot⟩ := a
      have hspot : spot = none := by
        have h5 := (World.cells?_some (hX 0 (by omega)).1).2.2 0 (by decide)
        have h6 : W.cell? ((⟨b, o, spot⟩ : Addr)) = some (.int .i64 (X 0).1) := by simpa [Addr.add] using h5
        exact World.cell?_spot h6
      subst hspot
      refine ⟨b, o, rfl, fun j x hj => ?_⟩
      have hjl : j < l0 := by
        have := (List.getElem?_eq_some_iff.1 hj).1
        simpa using this
      have hxe : x = X j := by simpa [hjl] using hj.symm
      subst hxe
      have h5 := (World.cells?_some (hX j hjl).1).2.2
      have e0 := h5 0 (by decide)
      have e1 := h5 1 (by decide)
      have e2 := h5 2 (by decide)
      rw [Deep.add_add, add_plain3] at e0 e1 e2
      exact ⟨by simpa using e0, by simpa [Nat.add_assoc] using e1, by simpa [Nat.add_assoc] using e2⟩
/-- Turns in memory. -/
def BoolRow (W : World) (v : Value) (l : List Bool) : Prop := ∃ a c, v = .slice a l.length c ∧ (l = [] ∨ ∃ b o, a = some ⟨b, o, none⟩ ∧ ∀ (j : Nat) x, l[j]? = some x → W.cell? ⟨b, o + j, none⟩ = some (.bool x))
set_option maxRecDepth 100000 in
theorem bools_of {H : Type} {enc : TypeId × Value → H} {W : World} {v : Value} {d : DataW H} {ps : List MemPlace} (h : DataW.Trod enc Tryd.prog W 0 (fun _ => true) true 56 v d ps) (hv : ∃ a l c, v = .slice a l c) :
    ∃ l, BoolRow W v l := by
  obtain ⟨fuel, hf⟩ := h
  obtain ⟨a0, l0, c0, rfl⟩ := hv
  rcases Deep.open_slice Tryd.underlying56 hf with ⟨h1, h2⟩ | ⟨a, len, cap, m, n, D, Pl, h1, _, hl, _, hm, hx, hel⟩
  · simp [Value.cells] at h1
    obtain ⟨rfl, rfl, rfl⟩ := h1
    exact ⟨[], none, 0, rfl, .inl rfl⟩
  · simp [Value.cells] at h1
    obtain ⟨rfl, rfl, rfl⟩ := h1
    simp only [if_true] at hm
    subst hm
    rw [zqB] at hel
    obtain ⟨X, hX⟩ := Deep.choose_lt (α := Bool) (n := l0) (p := fun i q => W.cells? 0 (a.add (i * 1)) 1 = some [.bool q]) (fun i hi => by
      obtain ⟨cs', hc1, hc2⟩ := hel i (by omega)
      obtain ⟨y, e, _⟩ := DataW.trod_bool Tryd.underlying4 hc2
      subst e
      exact ⟨y, hc1⟩)
    refine ⟨(List.range l0).map X, some a, m, by simp, ?_⟩
    by_cases h0 : l0 = 0
    · left; subst h0; rfl
    · right
      obtain ⟨b, o, spot⟩ := a
      have hspot : spot = none := by
        have h5 := (World.cells?_some (hX 0 (by omega))).2.2 0 (by decide)
        have h6 : W.cell? ((⟨b, o, spot⟩ : Addr)) = some (.bool (X 0)) := by simpa [Addr.add] using h5
        exact World.cell?_spot h6
      subst hspot
      refine ⟨b, o, rfl, fun j x hj => ?_⟩
      have hjl : j < l0 := by
        have := (List.getElem?_eq_some_iff.1 hj).1
        simpa using this
      have hxe : x = X j := by simpa [hjl] using hj.symm
      subst hxe
      have h5 := (World.cells?_some (hX j hjl)).2.2
      have e0 := h5 0 (by decide)
      rw [Deep.add_add, add_plain3] at e0
      simpa using e0
theorem BoolRow.later {W W' : World} {v : Value} {l : List Bool} (h : BoolRow W v l) (hb : Below W.heap.size W W') : BoolRow W' v l := by
  obtain ⟨a, c, h1, h3⟩ := h
  exact ⟨a, c, h1, h3.imp id fun ⟨b, o, q1, q2⟩ => ⟨b, o, q1, fun j x hj => Sc.Below.seen hb (Nat.le_refl _) (q2 j x hj)⟩⟩
end Go.Proofs.YtkhhiddemihnbaaDoor.Cw
