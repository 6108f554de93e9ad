/- What a reading gives: rows of numbers and of texts. -/
import Derived.Test.YtieelgikhbnalaaTe
import Derived.ChangeMaps5
import Derived.SliceStrings
import Derived.Carry
namespace Go.Proofs.Ytieelgikhbnalaa
open Go.ChangeShapes Go.WideShapes Go.ChangeAt Go.RowKit
theorem Try.own : ownKnob Try.prog.godebug = none := by kernel_rfl
theorem Try.laidOut : laidOutB Try.prog = true := by kernel_rfl
theorem Try.cells32 : Try.prog.cellsOf 32 = 1 := by kernel_rfl
theorem Try.cells9 : Try.prog.cellsOf 9 = 1 := by kernel_rfl
theorem nat_u64 {n : Int} (h : (Lit.int .u64 n).wf = true) : ∃ k : Nat, n = k := by
  have h0 : 0 ≤ n := by simp [Lit.wf, IntKind.min, IntKind.max, IntKind.bits, IntKind.signed] at h; omega
  exact ⟨n.toNat, by omega⟩
theorem nums_of {H : Type} {enc : TypeId × Value → H} {W : World} {v : Value} {d : DataW H} {ps : List MemPlace} (h : DataW.Trod enc Try.prog W 0 (fun _ => true) true 23 v d ps) (hv : ∃ a l c, v = .slice a l c) :
    ∃ l : List Nat, RowV W v (l.map nv) ∧ l.length ≤ maxLen := by
  obtain ⟨fuel, hf⟩ := h
  obtain ⟨a0, l0, c0, rfl⟩ := hv
  rcases open_ints Try.underlying23 Try.underlying32 Try.cells32 hf with ⟨h1, _⟩ | ⟨a, len, cap, zs, h1, _, hl, hm, hz, _, hc, hw⟩
  · simp [Value.cells] at h1
    obtain ⟨rfl, rfl, rfl⟩ := h1
    exact ⟨[], .inl ⟨rfl, rfl⟩, by simp⟩
  · simp [Value.cells] at h1
    obtain ⟨rfl, rfl, rfl⟩ := h1
    simp only [if_true] at hz
    have hlen : ((zs.take l0).map Int.toNat).length = l0 := by simp; omega
    refine ⟨(zs.take l0).map Int.toNat, .inr ⟨a, c0, by simp only [List.length_map] at hlen ⊢; rw [hlen], fun j x hx => ?_⟩, by rw [hlen]; omega⟩
    simp only [List.getElem?_map, List.getElem?_take, Option.map_eq_some_iff] at hx
    obtain ⟨n, ⟨z, hz1, rfl⟩, rfl⟩ := hx
    split at hz1
    · rename_i hj
      rw [hc j (by omega)]
      have hg : zs.getD j 0 = z := by rw [List.getD_eq_getElem?_getD, hz1]; rfl
      obtain ⟨k, rfl⟩ := nat_u64 (hw z (List.mem_of_getElem? hz1))
      rw [hg]; simp [nv]
    · cases hz1
theorem strs_of {H : Type} {enc : TypeId × Value → H} {W : World} {v : Value} {d : DataW H} {ps : List MemPlace} (h : DataW.Trod enc Try.prog W 0 (fun _ => true) true 27 v d ps) (hv : ∃ a l c, v = .slice a l c) :
    ∃ l : List ByteArray, RowV W v (l.map sv) ∧ l.length ≤ maxLen ∧ ∀ s ∈ l, s.size ≤ maxLen := by
  obtain ⟨fuel, hf⟩ := h
  obtain ⟨a0, l0, c0, rfl⟩ := hv
  rcases open_strings Try.underlying27 Try.underlying9 Try.cells9 hf with ⟨h1, _⟩ | ⟨a, len, cap, zs, h1, _, hl, hm, hz, _, hc, hw⟩
  · simp [Value.cells] at h1
    obtain ⟨rfl, rfl, rfl⟩ := h1
    exact ⟨[], .inl ⟨rfl, rfl⟩, by simp, by simp⟩
  · simp [Value.cells] at h1
    obtain ⟨rfl, rfl, rfl⟩ := h1
    simp only [if_true] at hz
    have hlen : (zs.take l0).length = l0 := by simp; omega
    refine ⟨zs.take l0, .inr ⟨a, c0, by rw [List.length_map, hlen], fun j x hx => ?_⟩, by rw [hlen]; omega, fun s hs => hw s (List.mem_of_mem_take hs)⟩
    simp only [List.getElem?_map, List.getElem?_take, Option.map_eq_some_iff] at hx
    obtain ⟨z, hz1, rfl⟩ := hx
    split at hz1
    · rename_i hj
      rw [hc j (by omega)]
      have hg : zs.getD j ByteArray.empty = z := by rw [List.getD_eq_getElem?_getD, hz1]; rfl
      rw [hg]; rfl
    · cases hz1
end Go.Proofs.Ytieelgikhbnalaa
