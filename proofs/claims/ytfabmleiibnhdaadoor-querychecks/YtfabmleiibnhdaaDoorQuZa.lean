/- What comes in, read: entities of a query, filters, rows of numbers, parts. -/
import Derived.Test.YtfabmleiibnhdaaDoorQuQi
import Derived.ProofKit
import Derived.OpenShut
import Derived.Deep.Grids
namespace Go.Proofs.YtfabmleiibnhdaaDoor.Qu
open Go.ChangeShapes Go.WideShapes Go.ChangeAt Go.RowKit
open Go.Proofs.YtfabmleiibnhdaaDoor.Rs (Prt PRow Six)
theorem cInt : Tryd.prog.cellsOf 3 = 1 := by kernel_rfl
theorem cMask : Tryd.prog.cellsOf 27 = 1 := by kernel_rfl
theorem cFil : Tryd.prog.cellsOf 29 = 3 := by kernel_rfl
theorem cA8 : Tryd.prog.cellsOf 46 = 8 := by kernel_rfl
theorem cBei : Tryd.prog.cellsOf 48 = 10 := by kernel_rfl
theorem u32_nat {n : Int} (h : (Lit.int .u32 n).wf = true) : ∃ m : Nat, n = (m : Int) ∧ m < 4294967296 := by
  unfold Lit.wf at h
  simp [IntKind.min, IntKind.max, IntKind.signed, IntKind.bits] at h
  exact ⟨n.toNat, by omega, by omega⟩
theorem vals_of : ∀ (cs : List Value), (∀ c ∈ cs, ∃ d, c = .int .i64 d ∧ J64 d) → ∃ ds : List Int, cs = ds.map (fun d => Value.int .i64 d) ∧ ∀ d ∈ ds, J64 d
  | [], _ => ⟨[], rfl, fun d hd => by simp at hd⟩
  | c :: cs, h => by
    obtain ⟨d, rfl, hd⟩ := h c (List.mem_cons_self ..)
    obtain ⟨ds, rfl, hds⟩ := vals_of cs fun x hx => h x (List.mem_cons_of_mem _ hx)
    exact ⟨d :: ds, rfl, fun x hx => by rcases List.mem_cons.1 hx with rfl | hx; exact hd; exact hds x hx⟩
set_option maxRecDepth 100000 in
theorem nums_of {H : Type} {enc : TypeId × Value → H} {W : World} {fuel : Nat} {t : TypeId} {n : Nat} {cs : List Value} {x : DataW H × List MemPlace} (ht : Tryd.prog.underlying t = some (.array n 3)) (hc : Tryd.prog.cellsOf t = n) (h : DataW.trod enc Tryd.prog W 0 (fun _ => true) true fuel t cs = some x) :
    ∃ ds : List Int, cs = ds.map (fun d => Value.int .i64 d) ∧ (∀ d ∈ ds, J64 d) ∧ ds.length = n := by
  obtain ⟨xs, m, _, _, hl, hx, hf⟩ := DataW.trod_array ht h
  rw [hc] at hl
  simp only [cInt] at hf
  obtain ⟨ds, e, hds⟩ := vals_of cs fun c hcm => by
    obtain ⟨i, hi, rfl⟩ := List.getElem_of_mem hcm
    have h2 := hf i (by omega)
    rw [show (cs.drop (i * 1)).take 1 = [cs[i]] by rw [Nat.mul_one, List.drop_eq_getElem_cons hi]; rfl] at h2
    obtain ⟨y, hy⟩ : ∃ y, xs[i]? = some y := ⟨xs[i]'(by omega), List.getElem?_eq_getElem _⟩
    rw [hy] at h2
    obtain ⟨d, e, _, w⟩ := DataW.trod_int Tryd.underlying3 h2
    exact ⟨d, by simpa using e, w⟩
  exact ⟨ds, e, hds, by have := congrArg List.length e; simp at this; omega⟩
set_option maxRecDepth 100000 in
theorem fil_of {H : Type} {enc : TypeId × Value → H} {W : World} {fuel : Nat} {cs : List Value} {x : DataW H × List MemPlace} (h : DataW.trod enc Tryd.prog W 0 (fun _ => true) true fuel 29 cs = some x) :
    ∃ a b c : Nat, cs = [.int .u32 (a : Int), .int .u32 (b : Int), .int .u32 (c : Int)] ∧ a < 4294967296 ∧ b < 4294967296 ∧ c < 4294967296 := by
  obtain ⟨xs, n, _, _, hl, hx, hf⟩ := DataW.trod_struct Tryd.underlying29 h
  rw [cFil] at hl
  match cs, hl with
  | [c0, c1, c2], _ =>
    have f0 := hf 0 _ rfl
    have f1 := hf 1 _ rfl
    have f2 := hf 2 _ rfl
    obtain ⟨x0, h0⟩ : ∃ x0, xs[0]? = some x0 := ⟨xs[0]'(by rw [hx]; decide), List.getElem?_eq_getElem _⟩
    obtain ⟨x1, h1⟩ : ∃ x1, xs[1]? = some x1 := ⟨xs[1]'(by rw [hx]; decide), List.getElem?_eq_getElem _⟩
    obtain ⟨x2, h2⟩ : ∃ x2, xs[2]? = some x2 := ⟨xs[2]'(by rw [hx]; decide), List.getElem?_eq_getElem _⟩
    have g0 : DataW.trod enc Tryd.prog W 0 (fun _ => true) true n 27 [c0] = some x0 := by rw [← h0, ← f0]; rfl
    have g1 : DataW.trod enc Tryd.prog W 0 (fun _ => true) true n 27 [c1] = some x1 := by rw [← h1, ← f1]; rfl
    have g2 : DataW.trod enc Tryd.prog W 0 (fun _ => true) true n 27 [c2] = some x2 := by rw [← h2, ← f2]; rfl
    obtain ⟨a, e0, _, w0⟩ := DataW.trod_int Tryd.underlying27 g0
    obtain ⟨b, e1, _, w1⟩ := DataW.trod_int Tryd.underlying27 g1
    obtain ⟨c, e2, _, w2⟩ := DataW.trod_int Tryd.underlying27 g2
    obtain ⟨a, rfl, ha⟩ := u32_nat w0
    obtain ⟨b, rfl, hb⟩ := u32_nat w1
    obtain ⟨c, rfl, hc⟩ := u32_nat w2
    simp at e0 e1 e2
    exact ⟨a, b, c, by rw [e0, e1, e2], ha, hb, hc⟩
/-- A filter, out of its reading. -/
theorem filter_of {H : Type} {enc : TypeId × Value → H} {W : World} {v : Value} {d : DataW H} {ps : List MemPlace} (h : DataW.Trod enc Tryd.prog W 0 (fun _ => true) true 29 v d ps) (hv : ∃ cs, v = .agg cs) :
    ∃ a b c : Nat, v = .agg #[.int .u32 (a : Int), .int .u32 (b : Int), .int .u32 (c : Int)] ∧ a < 4294967296 ∧ b < 4294967296 ∧ c < 4294967296 := by
  obtain ⟨fuel, hf⟩ := h
  obtain ⟨arr, rfl⟩ := hv
  obtain ⟨a, b, c, e, q⟩ := fil_of hf
  obtain ⟨l⟩ := arr
  simp [Value.cells] at e
  subst e
  exact ⟨a, b, c, rfl, q⟩
set_option maxRecDepth 100000 in
theorem bei_of {H : Type} {enc : TypeId × Value → H} {W : World} {fuel : Nat} {cs : List Value} {x : DataW H × List MemPlace} (h : DataW.trod enc Tryd.prog W 0 (fun _ => true) true fuel 48 cs = some x) :
    ∃ y : Bei, cs = y.arr.toList ∧ y.wf := by
  obtain ⟨xs, n, _, _, hl, hx, hf⟩ := DataW.trod_struct Tryd.underlying48 h
  rw [cBei] at hl
  match cs, hl with
  | [c0, c1, c2, c3, c4, c5, c6, c7, c8, c9], _ =>
    have f0 := hf 0 _ rfl
    have f1 := hf 1 _ rfl
    have f2 := hf 2 _ rfl
    obtain ⟨x0, h0⟩ : ∃ x0, xs[0]? = some x0 := ⟨xs[0]'(by rw [hx]; decide), List.getElem?_eq_getElem _⟩
    obtain ⟨x1, h1⟩ : ∃ x1, xs[1]? = some x1 := ⟨xs[1]'(by rw [hx]; decide), List.getElem?_eq_getElem _⟩
    obtain ⟨x2, h2⟩ : ∃ x2, xs[2]? = some x2 := ⟨xs[2]'(by rw [hx]; decide), List.getElem?_eq_getElem _⟩
    have g0 : DataW.trod enc Tryd.prog W 0 (fun _ => true) true n 27 [c0] = some x0 := by rw [← h0, ← f0]; rfl
    have g1 : DataW.trod enc Tryd.prog W 0 (fun _ => true) true n 46 [c1, c2, c3, c4, c5, c6, c7, c8] = some x1 := by rw [← h1, ← f1]; rfl
    have g2 : DataW.trod enc Tryd.prog W 0 (fun _ => true) true n 4 [c9] = some x2 := by rw [← h2, ← f2]; rfl
    obtain ⟨a, e0, _, w0⟩ := DataW.trod_int Tryd.underlying27 g0
    obtain ⟨a, rfl, ha⟩ := u32_nat w0
    obtain ⟨ds, e1, hds, hdl⟩ := nums_of Tryd.underlying46 cA8 g1
    obtain ⟨b, e2, _⟩ := DataW.trod_bool Tryd.underlying4 g2
    match ds, hdl with
    | [d0, d1, d2, d3, d4, d5, d6, d7], _ =>
      simp at e0 e1 e2
      obtain ⟨rfl, rfl, rfl, rfl, rfl, rfl, rfl, rfl⟩ := e1
      have J := fun d h => hds d h
      exact ⟨⟨a, d0, d1, d2, d3, d4, d5, d6, d7, b⟩, by rw [e0, e2]; rfl, ha, J d0 (by simp), J d1 (by simp), J d2 (by simp), J d3 (by simp), J d4 (by simp), J d5 (by simp), J d6 (by simp), J d7 (by simp)⟩
/-- An entity of a query, out of its reading. -/
theorem being_of {H : Type} {enc : TypeId × Value → H} {W : World} {v : Value} {d : DataW H} {ps : List MemPlace} (h : DataW.Trod enc Tryd.prog W 0 (fun _ => true) true 48 v d ps) (hv : ∃ cs, v = .agg cs) :
    ∃ x : Bei, v = x.val ∧ x.wf := by
  obtain ⟨fuel, hf⟩ := h
  obtain ⟨arr, rfl⟩ := hv
  obtain ⟨y, e, q⟩ := bei_of hf
  obtain ⟨l⟩ := arr
  simp [Value.cells] at e
  subst e
  exact ⟨y, rfl, q⟩
end Go.Proofs.YtfabmleiibnhdaaDoor.Qu
