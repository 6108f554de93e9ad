/- A part of StoreExact. -/
import Derived.Test.YtnlcbheidiigaaaGreatDoorMal
import Derived.Test.YtnlcbheidiigaaaGreatDoorCards
import Derived.Test.YtnlcbheidiigaaaGreatDoorTie
import Derived.ChangeMaps5
namespace Go.Proofs.YtnlcbheidiigaaaGreatDoor
open Go.ChangeShapes Go.WideShapes Go.ChangeAt Go.RowKit
open Co (I64)
theorem Tryz.own : ownKnob Tryz.prog.godebug = none := by kernel_rfl
theorem Tryz.laidOut : laidOutB Tryz.prog = true := by kernel_rfl
theorem u32_of {x : Int} (h : (Lit.int .u32 x).wf = true) : ∃ m : Nat, x = (m : Int) ∧ m < 4294967296 := by
 unfold Lit.wf at h
 simp [IntKind.min, IntKind.max, IntKind.signed, IntKind.bits] at h
 exact ⟨x.toNat, by omega, by omega⟩
set_option maxRecDepth 100000 in
theorem zq3 : Tryz.prog.cellsOf 3 = 1 := by kernel_rfl
theorem zq45 : Tryz.prog.cellsOf 45 = 4 := by kernel_rfl
theorem zq43 : Tryz.prog.cellsOf 43 = 2 := by kernel_rfl
theorem zq47 : Tryz.prog.cellsOf 47 = 6 := by kernel_rfl
theorem zq51 : Tryz.prog.cellsOf 51 = 16 := by kernel_rfl
theorem arr4_of {H : Type} {enc : TypeId × Value → H} {W : World} {fuel : Nat} {cs : List Value} {x : DataW H × List MemPlace} (h : DataW.trod enc Tryz.prog W 0 (fun _ => true) true fuel 45 cs = some x) : ∃ d0 d1 d2 d3 : Int, cs = [.int .i64 d0, .int .i64 d1, .int .i64 d2, .int .i64 d3] := by
 obtain ⟨xs, m, _, _, hl, hx, hf⟩ := DataW.trod_array Tryz.underlying45 h
 rw [zq45] at hl
 simp only [zq3] at hf
 match cs, hl with
 | [c0, c1, c2, c3], _ =>
  have G : ∀ (i : Nat) (c : Value), i < 4 → ([c0, c1, c2, c3].drop (i * 1)).take 1 = [c] → ∃ n : Int, c = .int .i64 n := by
   intro i c hi he
   have h2 := hf i hi
   rw [he] at h2
   obtain ⟨y, hy⟩ : ∃ y, xs[i]? = some y := ⟨xs[i]'(by omega), List.getElem?_eq_getElem _⟩
   rw [hy] at h2
   obtain ⟨n, e, _, _⟩ := DataW.trod_int Tryz.underlying3 h2
   exact ⟨n, by simpa using e⟩
  obtain ⟨d0, e0⟩ := G 0 c0 (by decide) rfl
  obtain ⟨d1, e1⟩ := G 1 c1 (by decide) rfl
  obtain ⟨d2, e2⟩ := G 2 c2 (by decide) rfl
  obtain ⟨d3, e3⟩ := G 3 c3 (by decide) rfl
  exact ⟨d0, d1, d2, d3, by rw [e0, e1, e2, e3]⟩
set_option maxRecDepth 100000 in
theorem part6_of {H : Type} {enc : TypeId × Value → H} {W : World} {fuel : Nat} {cs : List Value} {x : DataW H × List MemPlace} (h : DataW.trod enc Tryz.prog W 0 (fun _ => true) true fuel 47 cs = some x) :
  ∃ k d0 d1 d2 d3 t : Int, cs = [.int .i64 k, .int .i64 d0, .int .i64 d1, .int .i64 d2, .int .i64 d3, .int .i64 t] ∧ I64 k ∧ I64 t := by
 obtain ⟨xs, n, _, _, hl, hx, hf⟩ := DataW.trod_struct Tryz.underlying47 h
 rw [zq47] at hl
 match cs, hl with
 | [c0, c1, c2, c3, c4, c5], _ =>
  have f0 := hf 0 _ rfl
  have f1 := hf 1 _ rfl
  have f2 := hf 2 _ rfl
  obtain ⟨x0, h0⟩ : ∃ x0, xs[0]? = some x0 := ⟨xs[0]'(by rw [hx]; decide), List.getElem?_eq_getElem _⟩
  obtain ⟨x1, h1⟩ : ∃ x1, xs[1]? = some x1 := ⟨xs[1]'(by rw [hx]; decide), List.getElem?_eq_getElem _⟩
  obtain ⟨x2, h2⟩ : ∃ x2, xs[2]? = some x2 := ⟨xs[2]'(by rw [hx]; decide), List.getElem?_eq_getElem _⟩
  have g0 : DataW.trod enc Tryz.prog W 0 (fun _ => true) true n 3 [c0] = some x0 := by rw [← h0, ← f0]; rfl
  have g1 : DataW.trod enc Tryz.prog W 0 (fun _ => true) true n 45 [c1, c2, c3, c4] = some x1 := by rw [← h1, ← f1]; rfl
  have g2 : DataW.trod enc Tryz.prog W 0 (fun _ => true) true n 3 [c5] = some x2 := by rw [← h2, ← f2]; rfl
  obtain ⟨k, e0, _, w0⟩ := DataW.trod_int Tryz.underlying3 g0
  obtain ⟨d0, d1, d2, d3, e1⟩ := arr4_of g1
  obtain ⟨t, e2, _, w2⟩ := DataW.trod_int Tryz.underlying3 g2
  simp at e0 e1 e2
  obtain ⟨rfl, rfl, rfl, rfl⟩ := e1
  exact ⟨k, _, _, _, _, t, by rw [e0, e2], w0, w2⟩
set_option maxRecDepth 100000 in
theorem ent2_of {H : Type} {enc : TypeId × Value → H} {W : World} {fuel : Nat} {cs : List Value} {x : DataW H × List MemPlace} (h : DataW.trod enc Tryz.prog W 0 (fun _ => true) true fuel 43 cs = some x) :
  ∃ i g : Int, cs = [.int .i64 i, .int .i64 g] ∧ I64 i ∧ I64 g := by
 obtain ⟨xs, n, _, _, hl, hx, hf⟩ := DataW.trod_struct Tryz.underlying43 h
 rw [zq43] at hl
 match cs, hl with
 | [c0, c1], _ =>
  have f0 := hf 0 _ rfl
  have f1 := hf 1 _ rfl
  obtain ⟨x0, h0⟩ : ∃ x0, xs[0]? = some x0 := ⟨xs[0]'(by rw [hx]; decide), List.getElem?_eq_getElem _⟩
  obtain ⟨x1, h1⟩ : ∃ x1, xs[1]? = some x1 := ⟨xs[1]'(by rw [hx]; decide), List.getElem?_eq_getElem _⟩
  have g0 : DataW.trod enc Tryz.prog W 0 (fun _ => true) true n 3 [c0] = some x0 := by rw [← h0, ← f0]; rfl
  have g1 : DataW.trod enc Tryz.prog W 0 (fun _ => true) true n 3 [c1] = some x1 := by rw [← h1, ← f1]; rfl
  obtain ⟨i, e0, _, w0⟩ := DataW.trod_int Tryz.underlying3 g0
  obtain ⟨g, e1, _, w1⟩ := DataW.trod_int Tryz.underlying3 g1
  simp at e0 e1
  exact ⟨i, g, by rw [e0, e1], w0, w1⟩
end Go.Proofs.YtnlcbheidiigaaaGreatDoor
