/- A row of numbers, out of its reading. -/
import Derived.Test.YtmekfiafdjdopaaDoorZa
import Derived.Test.YtmekfiafdjdopaaDoorWa
namespace Go.Proofs.YtmekfiafdjdopaaDoor
open Go.ChangeShapes Go.WideShapes Go.ChangeAt Go.RowKit
theorem ints_of {H : Type} {enc : TypeId × Value → H} {W : World} {v : Value} {d : DataW H} {ps : List MemPlace} (h : DataW.Trod enc Tryd.prog W 0 (fun _ => true) true 60 v d ps) (hv : ∃ a l c, v = .slice a l c) :
    ∃ ns : List Int, IntRow W v ns := by
  obtain ⟨fuel, hf⟩ := h
  obtain ⟨a0, l0, c0, rfl⟩ := hv
  rcases open_ints Tryd.underInts Tryd.underlying3 Tryd.cells3 hf with ⟨h1, _⟩ | ⟨a, len, cap, zs, h1, _, hl, hm, hz, _, hc, hw⟩
  · simp [Value.cells] at h1
    obtain ⟨rfl, rfl, rfl⟩ := h1
    exact ⟨[], ⟨none, 0, rfl, .inl rfl⟩⟩
  · simp [Value.cells] at h1
    obtain ⟨rfl, rfl, rfl⟩ := h1
    simp only [if_true] at hz
    have hlen : (zs.take l0).length = l0 := by rw [List.length_take]; omega
    refine ⟨zs.take l0, ⟨some a, c0, by rw [hlen], ?_⟩⟩
    by_cases h0 : l0 = 0
    · left; subst h0; rfl
    · right
      obtain ⟨b, o, spot⟩ := a
      have hspot : spot = none := by
        have h5 := hc 0 (by omega)
        have h6 : W.cell? ((⟨b, o, spot⟩ : Addr)) = some (.int .i64 (zs.getD 0 0)) := by simpa [Addr.add] using h5
        exact World.cell?_spot h6
      subst hspot
      refine ⟨b, o, rfl, fun j x hx => ?_⟩
      rw [List.getElem?_take] at hx
      split at hx
      · have := hc j (by omega)
        rw [add_plain3, List.getD_eq_getElem?_getD, hx] at this
        exact this
      · simp at hx
end Go.Proofs.YtmekfiafdjdopaaDoor
