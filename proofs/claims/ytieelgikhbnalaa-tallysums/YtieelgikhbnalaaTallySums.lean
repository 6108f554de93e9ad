/- TallySums, for every texts, numbers and sums. -/
import Derived.Test.YtieelgikhbnalaaTk
import Derived.Test.YtieelgikhbnalaaTg
import Derived.Deep.Grids
namespace Go.Proofs.Ytieelgikhbnalaa
open Go.ChangeShapes Go.WideShapes Go.ChangeAt Go.RowKit
theorem Try.cells29 : Try.prog.cellsOf 29 = 3 := by kernel_rfl
set_option maxRecDepth 100000 in
theorem add_of {H : Type} {enc : TypeId × Value → H} {W : World} {fuel : Nat} {cs : List Value} {x : DataW H × List MemPlace} (h : DataW.trod enc Try.prog W 0 (fun _ => true) true fuel 29 cs = some x) :
    ∃ y : AddI, cs = [.bool y.is, .int .i64 y.n, .string y.text] ∧ y.text.size ≤ maxLen := by
  obtain ⟨xs, n, _, _, hl, hx, hf⟩ := DataW.trod_struct Try.underlying29 h
  rw [Try.cells29] at hl
  match cs, hl with
  | [c0, c1, c2], _ =>
    have f0 := hf 0 _ rfl
    have f1 := hf 1 _ rfl
    have f2 := hf 2 _ rfl
    obtain ⟨x0, h0⟩ : ∃ x0, xs[0]? = some x0 := ⟨xs[0]'(by rw [hx]; decide), List.getElem?_eq_getElem _⟩
    obtain ⟨x1, h1⟩ : ∃ x1, xs[1]? = some x1 := ⟨xs[1]'(by rw [hx]; decide), List.getElem?_eq_getElem _⟩
    obtain ⟨x2, h2⟩ : ∃ x2, xs[2]? = some x2 := ⟨xs[2]'(by rw [hx]; decide), List.getElem?_eq_getElem _⟩
    have g0 : DataW.trod enc Try.prog W 0 (fun _ => true) true n 4 [c0] = some x0 := by rw [← h0, ← f0]; rfl
    have g1 : DataW.trod enc Try.prog W 0 (fun _ => true) true n 3 [c1] = some x1 := by rw [← h1, ← f1]; rfl
    have g2 : DataW.trod enc Try.prog W 0 (fun _ => true) true n 9 [c2] = some x2 := by rw [← h2, ← f2]; rfl
    obtain ⟨k, e0, _⟩ := DataW.trod_bool Try.underlying4 g0
    obtain ⟨m, e1, _, _⟩ := DataW.trod_int Try.underlying3 g1
    obtain ⟨t, e2, _, ht⟩ := DataW.trod_string Try.underlying9 g2
    simp at e0 e1 e2
    exact ⟨⟨k, m, t⟩, by rw [e0, e1, e2], ht⟩
instance : Inhabited AddI := ⟨⟨false, 0, ⟨#[]⟩⟩⟩
set_option maxRecDepth 100000 in
theorem adds_of {H : Type} {enc : TypeId × Value → H} {W : World} {v : Value} {d : DataW H} {ps : List MemPlace} (h : DataW.Trod enc Try.prog W 0 (fun _ => true) true 22 v d ps) (hv : ∃ a l c, v = .slice a l c) :
    ∃ xs : List AddI, Adds W v xs ∧ xs.length ≤ maxLen ∧ ∀ x ∈ xs, x.text.size ≤ maxLen := by
  obtain ⟨fuel, hf⟩ := h
  obtain ⟨a0, l0, c0, rfl⟩ := hv
  rcases Deep.open_slice Try.underlying22 hf with ⟨h1, h2⟩ | ⟨a, len, cap, m, n, D, Pl, h1, _, hl, hcm, hm, hx, hel⟩
  · simp [Value.cells] at h1
    obtain ⟨rfl, rfl, rfl⟩ := h1
    exact ⟨[], ⟨none, 0, rfl, .inl rfl⟩, by simp, by simp⟩
  · simp [Value.cells] at h1
    obtain ⟨rfl, rfl, rfl⟩ := h1
    simp only [if_true] at hm
    subst hm
    rw [Try.cells29] at hel
    obtain ⟨X, hX⟩ := Deep.choose_lt (α := AddI) (n := l0) (p := fun i q => W.cells? 0 (a.add (i * 3)) 3 = some [.bool q.is, .int .i64 q.n, .string q.text] ∧ q.text.size ≤ maxLen) (fun i hi => by
      obtain ⟨cs', hc1, hc2⟩ := hel i (by omega)
      obtain ⟨y, e, h3⟩ := add_of hc2
      subst e
      exact ⟨y, hc1, h3⟩)
    refine ⟨(List.range l0).map X, ⟨some a, m, by simp, ?_⟩, by simp; omega, ?_⟩
    · by_cases h0 : l0 = 0
      · left; subst h0; rfl
      · right
        obtain ⟨b, o, spot⟩ := a
        have hspot : spot = none := by
          have h5 := (World.cells?_some (hX 0 (by omega)).1).2.2 0 (by decide)
          have h6 : W.cell? ((⟨b, o, spot⟩ : Addr)) = some (.bool (X 0).is) := by simpa [Addr.add] using h5
          exact World.cell?_spot h6
        subst hspot
        refine ⟨b, o, rfl, fun j x hj => ?_⟩
        have hjl : j < l0 := by
          have := (List.getElem?_eq_some_iff.1 hj).1
          simpa using this
        have hxe : x = X j := by simpa [hjl] using hj.symm
        subst hxe
        have h5 := (World.cells?_some (hX j hjl).1).2.2
        have e0 := h5 0 (by decide)
        have e1 := h5 1 (by decide)
        have e2 := h5 2 (by decide)
        rw [Deep.add_add, add_plain] at e0 e1 e2
        exact ⟨by simpa using e0, by simpa [Nat.add_assoc] using e1, by simpa [Nat.add_assoc] using e2⟩
    · intro x hx
      obtain ⟨i, hi, rfl⟩ := List.mem_map.1 hx
      exact (hX i (by simpa using hi)).2
namespace tallySums
theorem walk (v vs : Value) (l : List AddI) (ns : List Nat) (w : World) (hl : l.length ≤ maxLen) (hn : ns.length ≤ maxLen) (hs : ∀ x ∈ l, x.text.size ≤ maxLen) (hv : Adds w v l) (hvs : RowV w vs (ns.map nv)) :
    Calls Try.prog 3 #[v, vs] w fun e w' => e = .returned (.bool true) ∧ Below w.heap.size w w' := by
  by_cases h : 60 < l.length ∨ 60 < ns.length
  · exact sums_out v vs l ns w hl hn h hv hvs
  · exact sums_any v vs l ns w (by omega) (by omega) hs hv hvs
set_option maxRecDepth 100000 in
theorem lifted (os : Os) (started : os.Started) (H : Type) (enc : TypeId × Value → H) :
    ReturnsInHanded {} Try.checked os 3 .any (Rows.tallySumsSpec.pre6 enc Try.prog Try.f3 Rows.tallySumsRow.domain false) (Rows.tallySumsSpec.post enc Try.prog Try.f3 false true false false) := by
  refine returnsInHanded_of_change (C := Try.checked) Try.own started (by kernel_rfl) Try.func3
    (ChangeSpec.witness6 (enc := enc) (C := Try.checked) false ⟨#[], #[.slice none 0 0, .slice none 0 0], []⟩ 8 (by kernel_rfl) (by kernel_rfl) (by kernel_rfl) (by kernel_rfl)) ?_
  intro W base args ds gs before hval0 hW hcnd _
  have hval : ∀ (j : Nat) t v, Try.f3.params[j]? = some t → args[j]? = some v → Value.okWide Try.prog W .any base t v := hval0
  have hW' := hW
  obtain ⟨p, q, hA0, hV, rfl, hfz, hnd⟩ := hW
  have hA : DataW.TrodAll enc Try.prog W 0 (fun _ => true) true Try.f3.params.toList args.toList ds p := hA0
  rw [Try.params3] at hA hval
  obtain ⟨v0, vs0, d0, ds0, p0, q0, hargs, rfl, rfl, h0, r0⟩ := trodAll_cons hA
  obtain ⟨v1, vs1, d1, ds1, p1, q1, rfl, rfl, rfl, h1, r1⟩ := trodAll_cons r0
  obtain ⟨rfl, rfl, rfl⟩ := trodAll_nil r1
  obtain rfl : args = #[v0, v1] := by cases args; simp_all
  obtain ⟨rfl, rfl⟩ := trodVars_none hV
  obtain ⟨x0, y0, z0, rfl⟩ := okWide_slice Try.underlying22 (hval 0 22 v0 rfl rfl)
  obtain ⟨x1, y1, z1, rfl⟩ := okWide_slice Try.underlying23 (hval 1 23 v1 rfl rfl)
  obtain ⟨la, hRa, hla, hsa⟩ := adds_of h0 ⟨_, _, _, rfl⟩
  obtain ⟨lb, hRb, hlb⟩ := nums_of h1 ⟨_, _, _, rfl⟩
  clear hA0 hval0
  simp only [List.append_nil] at hW'
  have hlt : ∀ x ∈ p0 ++ p1, x.block < W.heap.size := fun x hx => by simpa using hW'.lt x hx
  refine (walk _ _ la lb W hla hlb hsa hRa hRb).mono fun e W' ⟨he, hg⟩ => ?_
  subst he
  have g0 : DataW.Trod enc Try.prog W' 0 (fun b => decide (b < W.heap.size)) true 22 (.slice x0 y0 z0) d0 p0 := Below.trod Try.laidOut (by kernel_rfl) (of_decide_eq_true (by kernel_rfl)) h0 hg (fun x hx => hlt x (List.mem_append_left _ hx))
  have g1 : DataW.Trod enc Try.prog W' 0 (fun b => decide (b < W.heap.size)) true 23 (.slice x1 y1 z1) d1 p1 := Below.trod Try.laidOut (by kernel_rfl) (of_decide_eq_true (by kernel_rfl)) h1 hg (fun x hx => hlt x (List.mem_append_right _ hx))
  exact ⟨_, rfl, _, _, _, [], _, [], hW', trodAll_mk1 (shut_bool Try.underlying4 true), trodAll_mk2 g0 g1, rfl, hg.frame _, fun h => by cases h⟩
theorem proved : Rows.TallySumsSaid :=
  OpenClaim.holds_of_wide 3 Try.f3 rfl rfl rfl rfl rfl rfl rfl ⟨rfl, rfl, rfl, rfl, rfl⟩ rfl rfl rfl rfl rfl (by kernel_rfl) Try.func3 (by kernel_rfl)
    (of_decide_eq_true (by kernel_rfl)) (by unfold Func.isWrapper; first | (rw [if_pos (by decide +kernel)]; kernel_rfl) | (rw [if_neg (by decide +kernel)]; exact ⟨rfl, rfl⟩))
    (fun os started H enc _ => lifted os started H enc)
#print axioms proved
end tallySums
end Go.Proofs.Ytieelgikhbnalaa
