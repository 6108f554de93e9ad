/- A part of StoreExact. -/
import Derived.Test.YtnlcbheidiigaaaGreatDoorRsHf
namespace Go.Proofs.YtnlcbheidiigaaaGreatDoor
namespace Rs
open Go.ChangeShapes Go.WideShapes Go.ChangeAt Go.RowKit
open Co (I64)
def AX.zero : AX := ⟨0, 0, 0, 0, .slice none 0 0, [], Prt.zero, 0, 0, 0, 0, 0⟩
theorem prow_of {H : Type} {enc : TypeId × Value → H} {W : World} {fuel : Nat} {v : Value} {x : DataW H × List MemPlace} (hf : DataW.trod enc Tryz.prog W 0 (fun _ => true) true fuel 44 [v] = some x) :
  ∃ pl, PRow W v pl ∧ ∀ p ∈ pl, I64 p.t := by
 rcases Deep.open_slice Tryz.underlying44 hf with ⟨h1, h2⟩ | ⟨a, l0, cap, m, n, D, Pl, h1, _, hl, _, hm, hx, hel⟩
 ·obtain rfl : v = .slice none 0 0 := by simpa using h1
  exact ⟨[], ⟨none, 0, rfl, .inl rfl⟩, by simp⟩
 ·obtain rfl : v = .slice (some a) l0 cap := by simpa using h1
  rw [zq47] at hel
  haveI : Inhabited Prt := ⟨Prt.zero⟩
  have hlm : l0 ≤ m := by
   first
    | omega
    | (simp only [if_true] at hm; omega)
  obtain ⟨X, hX⟩ := Deep.choose_lt (α := Prt) (n := l0) (p := fun i q => W.cells? 0 (a.add (i * 6)) 6 = some q.arr.toList ∧ I64 q.t) (fun i hi => by
   obtain ⟨cs', hc1, hc2⟩ := hel i (by omega)
   obtain ⟨k, d0, d1, d2, d3, t, e, -, hw⟩ := part6_of hc2
   subst e
   exact ⟨⟨k, d0, d1, d2, d3, t⟩, hc1, hw⟩)
  refine ⟨(List.range l0).map X, ⟨some a, cap, by simp, ?_⟩, fun x hx => ?_⟩
  ·by_cases h0 : l0 = 0
   ·left; subst h0; rfl
   ·right
    obtain ⟨b, o, spot⟩ := a
    have hspot : spot = none := by
     have h5 := (World.cells?_some (hX 0 (by omega)).1).2.2 0 (by decide)
     have h6 : W.cell? ((⟨b, o, spot⟩ : Addr)) = some (.int .i64 (X 0).c) := by simpa [Addr.add, Prt.arr] using h5
     exact World.cell?_spot h6
    subst hspot
    refine ⟨b, o, rfl, fun j x hj => ?_⟩
    have hjl : j < l0 := by
     have := (List.getElem?_eq_some_iff.1 hj).1
     simpa using this
    have hxe : x = X j := by simpa [hjl] using hj.symm
    subst hxe
    have h7 := (hX j hjl).1
    rw [Co.add_at2] at h7
    have h5 := (World.cells?_some h7).2.2
    have g := fun i (hi : i < 6) => by
     have := h5 i hi
     rw [Co.add_at2] at this
     exact this
    exact ⟨g 0 (by decide), g 1 (by decide), g 2 (by decide), g 3 (by decide), g 4 (by decide), g 5 (by decide)⟩
  ·obtain ⟨j, hj, rfl⟩ := List.mem_map.1 hx
   exact (hX j (by simpa using hj)).2
set_option maxRecDepth 100000 in
theorem act_of2 {H : Type} {enc : TypeId × Value → H} {W : World} {fuel : Nat} {cs : List Value} {x : DataW H × List MemPlace} (h : DataW.trod enc Tryz.prog W 0 (fun _ => true) true fuel 51 cs = some x) :
  ∃ y : AX, cs = y.arr.toList ∧ y.Ok W := by
 obtain ⟨xs, n, _, _, hl, hx, hf⟩ := DataW.trod_struct Tryz.underlying51 h
 rw [zq51] at hl
 match cs, hl with
 | [c0, c1, c2, c3, c4, c5, c6, c7, c8, c9, c10, c11, c12, c13, c14, c15], _ =>
  have f0 := hf 0 _ rfl
  have f1 := hf 1 _ rfl
  have f2 := hf 2 _ rfl
  have f3 := hf 3 _ rfl
  have f4 := hf 4 _ rfl
  have f5 := hf 5 _ rfl
  have f6 := hf 6 _ rfl
  have f7 := hf 7 _ rfl
  have f8 := hf 8 _ rfl
  have f9 := hf 9 _ rfl
  obtain ⟨x0, h0⟩ : ∃ x0, xs[0]? = some x0 := ⟨xs[0]'(by rw [hx]; decide), List.getElem?_eq_getElem _⟩
  obtain ⟨x1, h1⟩ : ∃ x1, xs[1]? = some x1 := ⟨xs[1]'(by rw [hx]; decide), List.getElem?_eq_getElem _⟩
  obtain ⟨x2, h2⟩ : ∃ x2, xs[2]? = some x2 := ⟨xs[2]'(by rw [hx]; decide), List.getElem?_eq_getElem _⟩
  obtain ⟨x3, h3⟩ : ∃ x3, xs[3]? = some x3 := ⟨xs[3]'(by rw [hx]; decide), List.getElem?_eq_getElem _⟩
  obtain ⟨x4, h4⟩ : ∃ x4, xs[4]? = some x4 := ⟨xs[4]'(by rw [hx]; decide), List.getElem?_eq_getElem _⟩
  obtain ⟨x5, h5⟩ : ∃ x5, xs[5]? = some x5 := ⟨xs[5]'(by rw [hx]; decide), List.getElem?_eq_getElem _⟩
  obtain ⟨x6, h6⟩ : ∃ x6, xs[6]? = some x6 := ⟨xs[6]'(by rw [hx]; decide), List.getElem?_eq_getElem _⟩
  obtain ⟨x7, h7⟩ : ∃ x7, xs[7]? = some x7 := ⟨xs[7]'(by rw [hx]; decide), List.getElem?_eq_getElem _⟩
  obtain ⟨x8, h8⟩ : ∃ x8, xs[8]? = some x8 := ⟨xs[8]'(by rw [hx]; decide), List.getElem?_eq_getElem _⟩
  obtain ⟨x9, h9⟩ : ∃ x9, xs[9]? = some x9 := ⟨xs[9]'(by rw [hx]; decide), List.getElem?_eq_getElem _⟩
  have g0 : DataW.trod enc Tryz.prog W 0 (fun _ => true) true n 3 [c0] = some x0 := by rw [← h0, ← f0]; rfl
  have g1 : DataW.trod enc Tryz.prog W 0 (fun _ => true) true n 3 [c1] = some x1 := by rw [← h1, ← f1]; rfl
  have g2 : DataW.trod enc Tryz.prog W 0 (fun _ => true) true n 43 [c2, c3] = some x2 := by rw [← h2, ← f2]; rfl
  have g3 : DataW.trod enc Tryz.prog W 0 (fun _ => true) true n 44 [c4] = some x3 := by rw [← h3, ← f3]; rfl
  have g4 : DataW.trod enc Tryz.prog W 0 (fun _ => true) true n 47 [c5, c6, c7, c8, c9, c10] = some x4 := by rw [← h4, ← f4]; rfl
  have g5 : DataW.trod enc Tryz.prog W 0 (fun _ => true) true n 3 [c11] = some x5 := by rw [← h5, ← f5]; rfl
  have g6 : DataW.trod enc Tryz.prog W 0 (fun _ => true) true n 3 [c12] = some x6 := by rw [← h6, ← f6]; rfl
  have g7 : DataW.trod enc Tryz.prog W 0 (fun _ => true) true n 3 [c13] = some x7 := by rw [← h7, ← f7]; rfl
  have g8 : DataW.trod enc Tryz.prog W 0 (fun _ => true) true n 49 [c14] = some x8 := by rw [← h8, ← f8]; rfl
  have g9 : DataW.trod enc Tryz.prog W 0 (fun _ => true) true n 49 [c15] = some x9 := by rw [← h9, ← f9]; rfl
  obtain ⟨k, e0, _, _⟩ := DataW.trod_int Tryz.underlying3 g0
  obtain ⟨nn, e1, _, _⟩ := DataW.trod_int Tryz.underlying3 g1
  obtain ⟨cm, e5, _, w5⟩ := DataW.trod_int Tryz.underlying3 g5
  obtain ⟨ce, e6, _, _⟩ := DataW.trod_int Tryz.underlying3 g6
  obtain ⟨va, e7, _, _⟩ := DataW.trod_int Tryz.underlying3 g7
  obtain ⟨mm, e8, _, w8⟩ := DataW.trod_int Tryz.underlying49 g8
  obtain ⟨ww, e9, _, w9⟩ := DataW.trod_int Tryz.underlying49 g9
  obtain ⟨ei, eg, e2, wi, wg⟩ := ent2_of g2
  obtain ⟨pc, p0, p1, p2, p3, pt, e4, _, wt⟩ := part6_of g4
  obtain ⟨m8, rfl, hm8⟩ := u32_of w8
  obtain ⟨m9, rfl, hm9⟩ := u32_of w9
  obtain ⟨pl, hpl, hti⟩ := prow_of g3
  simp at e0 e1 e2 e4 e5 e6 e7 e8 e9
  obtain ⟨rfl, rfl⟩ := e2
  obtain ⟨rfl, rfl, rfl, rfl, rfl, rfl⟩ := e4
  exact ⟨⟨k, nn, ei, eg, c4, pl, ⟨pc, p0, p1, p2, p3, pt⟩, cm, ce, va, m8, m9⟩, by rw [e0, e1, e5, e6, e7, e8, e9]; rfl, ⟨wi, wg⟩, wt, w5, ⟨hm8, hm9⟩, hpl, hti⟩
set_option maxRecDepth 100000 in
theorem acts_of {H : Type} {enc : TypeId × Value → H} {W : World} {v : Value} {d : DataW H} {ps : List MemPlace} (h : DataW.Trod enc Tryz.prog W 0 (fun _ => true) true 26 v d ps) (hv : ∃ a l c, v = .slice a l c) :
  ∃ cl, AR W v cl := by
 obtain ⟨fuel, hf⟩ := h
 obtain ⟨a0, l0, c0, rfl⟩ := hv
 rcases Deep.open_slice Tryz.underlying26 hf with ⟨h1, h2⟩ | ⟨a, len, cap, m, n, D, Pl, h1, _, hl, _, hm, hx, hel⟩
 ·simp [Value.cells] at h1
  obtain ⟨rfl, rfl, rfl⟩ := h1
  exact ⟨[], none, 0, rfl, by simp, .inl rfl⟩
 ·simp [Value.cells] at h1
  obtain ⟨rfl, rfl, rfl⟩ := h1
  simp only [if_true] at hm
  subst hm
  rw [zq51] at hel
  haveI : Inhabited AX := ⟨AX.zero⟩
  obtain ⟨X, hX⟩ := Deep.choose_lt (α := AX) (n := l0) (p := fun i q => W.cells? 0 (a.add (i * 16)) 16 = some q.arr.toList ∧ q.Ok W) (fun i hi => by
   obtain ⟨cs', hc1, hc2⟩ := hel i (by omega)
   obtain ⟨y, e, hy⟩ := act_of2 hc2
   subst e
   exact ⟨y, hc1, hy⟩)
  refine ⟨(List.range l0).map X, some a, m, by simp, fun x hx => ?_, ?_⟩
  ·obtain ⟨j, hj, rfl⟩ := List.mem_map.1 hx
   exact (hX j (by simpa using hj)).2
  by_cases h0 : l0 = 0
  ·left; subst h0; rfl
  ·right
   obtain ⟨b, o, spot⟩ := a
   have hspot : spot = none := by
    have h5 := (World.cells?_some (hX 0 (by omega)).1).2.2 0 (by decide)
    have h6 : W.cell? ((⟨b, o, spot⟩ : Addr)) = some (.int .i64 (X 0).kd) := by simpa [Addr.add, AX.arr] using h5
    exact World.cell?_spot h6
   subst hspot
   refine ⟨b, o, rfl, fun j x hj => ?_⟩
   have hjl : j < l0 := by
    have := (List.getElem?_eq_some_iff.1 hj).1
    simpa using this
   have hxe : x = X j := by simpa [hjl] using hj.symm
   subst hxe
   have h7 := (hX j hjl).1
   rw [Co.add_at2] at h7
   have h5 := (World.cells?_some h7).2.2
   intro i v hv
   have hi : i < 16 := (Array.getElem?_eq_some_iff.1 hv).1
   have := h5 i hi
   rw [Co.add_at2] at this
   rw [this, ← hv]
   simp
end Rs
end Go.Proofs.YtnlcbheidiigaaaGreatDoor
