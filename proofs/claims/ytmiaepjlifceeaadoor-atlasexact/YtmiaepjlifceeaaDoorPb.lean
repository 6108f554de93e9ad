/- What every proof of this seat uses: the door's own heap meets the rows' list; what comes in, read. -/
import Derived.Test.YtmiaepjlifceeaaDoorKl
import Derived.Test.YtmiaepjlifceeaaDoorBa
import Derived.Test.YtmiaepjlifceeaaDoorCards
import Derived.Test.YtmiaepjlifceeaaDoorTie
import Derived.ProofKit
import Derived.LaidMore
import Derived.OpenShut
import Derived.Deep.Grids
import Derived.SevenTiedAt
import Derived.ChangeMaps5
namespace Go.Proofs.YtmiaepjlifceeaaDoor
open Go.ChangeShapes Go.WideShapes Go.ChangeAt Go.RowKit
theorem door_met (os : Os) (args : Array Value) : laidMetH Tryd.prog Rows.atlasExactRow.laid ((World.doorLaid Tryd.prog 351 os).forCall (fun _ _ => 0) ⟨#[], args, []⟩).memory :=
  laidMetH_of_parts3 (fuel := 8) (laidMet_of_run' 8 (by kernel_rfl) (by kernel_rfl)) (by kernel_rfl) (by kernel_rfl)
theorem door_met3 (os : Os) (args : Array Value) : laidMetH Tryd.prog Rows.atlasOnceRow.laid ((World.doorLaid Tryd.prog 351 os).forCall (fun _ _ => 0) ⟨#[], args, []⟩).memory :=
  laidMetH_of_parts3 (fuel := 8) (laidMet_of_run' 8 (by kernel_rfl) (by kernel_rfl)) (by kernel_rfl) (by kernel_rfl)
theorem Tryd.own : ownKnob Tryd.prog.godebug = none := by kernel_rfl
theorem env_of {W : World} (h : laidMetH Tryd.prog Rows.atlasExactRow.laid W) : ∃ Ad, Env W Ad := by
  rw [MakeChecks.laidMetH_plain _ _ _ (by kernel_rfl)] at h
  exact env18 h
def ad3 (a1 a2 a7 : Addr) (k : Nat) : Addr := if k = 1 then a1 else if k = 2 then a2 else a7
theorem ne_of_text {W : World} {g g' : Nat} {t t' : List UInt8} {a a' : Addr} (h : OneK W g t a) (h' : OneK W g' t' a') (hne : t ≠ t') : a ≠ a' := fun e => by
  obtain ⟨_, _, s, c, x⟩ := h
  obtain ⟨_, _, s', c', x'⟩ := h'
  rw [e, c'] at c
  simp only [Option.some.injEq, Value.string.injEq] at c
  rw [← c, x'] at x
  exact hne x.symm
theorem env3_of {W : World} (h : laidMetH Tryd.prog Rows.atlasOnceRow.laid W) : ∃ Ad, Env3 W Ad := by
  rw [MakeChecks.laidMetH_plain _ _ _ (by kernel_rfl)] at h
  have h' : laidMet Tryd.prog [("pasodoble/api.ErrArg", Rows.laid_pasodoble_api_ErrArg), ("pasodoble/api.ErrNil", Rows.laid_pasodoble_api_ErrNil), ("pasodoble/api.ErrNone", Rows.laid_pasodoble_api_ErrNone)] W := h
  obtain ⟨⟨a1, h1⟩, a2, h2⟩ := two_of h' kl_g1 kl_t1 kl_g2 kl_t2
  obtain ⟨-, a7, h7⟩ := two_of h'.tail kl_g2 kl_t2 kl_g7 kl_t7
  have n12 := ne_of_text h1 h2 (by decide)
  have n17 := ne_of_text h1 h7 (by decide)
  have n27 := ne_of_text h2 h7 (by decide)
  have F : ∀ {P : Nat → Prop}, P 1 → P 2 → P 7 → ∀ k ∈ three, P k := by
    intro P p1 p2 p7 k hk
    simp only [three, List.mem_cons, List.not_mem_nil, or_false] at hk
    rcases hk with rfl | rfl | rfl <;> assumption
  refine ⟨ad3 a1 a2 a7, F h1.1 h2.1 h7.1, F h1.2.1 h2.2.1 h7.2.1, ?_⟩
  refine F (F ?_ ?_ ?_) (F ?_ ?_ ?_) (F ?_ ?_ ?_)
  all_goals simp [ad3]
  all_goals first | exact n12 | exact n17 | exact n27 | exact n12.symm | exact n17.symm | exact n27.symm
theorem cells33 : Tryd.prog.cellsOf 33 = 1 := by kernel_rfl
theorem u32_of {x : Int} (h : (Lit.int .u32 x).wf = true) : ∃ m : Nat, x = (m : Int) ∧ m < 4294967296 := by
  unfold Lit.wf at h
  simp [IntKind.min, IntKind.max, IntKind.signed, IntKind.bits] at h
  exact ⟨x.toNat, by omega, by omega⟩
set_option maxRecDepth 100000 in
/-- A row of sets, out of its reading. -/
theorem masks_of {H : Type} {enc : TypeId × Value → H} {W : World} {v : Value} {d : DataW H} {ps : List MemPlace} (h : DataW.Trod enc Tryd.prog W 0 (fun _ => true) true 51 v d ps) (hv : ∃ a l c, v = .slice a l c) :
    ∃ ts, MRow W v ts := by
  obtain ⟨fuel, hf⟩ := h
  obtain ⟨a0, l0, c0, rfl⟩ := hv
  rcases Deep.open_slice Tryd.underlying51 hf with ⟨h1, h2⟩ | ⟨a, len, cap, m, n, D, Pl, h1, _, hl, _, hm, hx, hel⟩
  · simp [Value.cells] at h1
    obtain ⟨rfl, rfl, rfl⟩ := h1
    exact ⟨[], by simp, none, 0, rfl, .inl rfl⟩
  · simp [Value.cells] at h1
    obtain ⟨rfl, rfl, rfl⟩ := h1
    simp only [if_true] at hm
    subst hm
    rw [cells33] at hel
    obtain ⟨X, hX⟩ := Deep.choose_lt (α := Nat) (n := l0) (p := fun i q => W.cells? 0 (a.add (i * 1)) 1 = some [.int .u32 (q : Int)] ∧ q < 4294967296) (fun i hi => by
      obtain ⟨cs', hc1, hc2⟩ := hel i (by omega)
      obtain ⟨y, e, _, hw⟩ := DataW.trod_int Tryd.underlying33 hc2
      obtain ⟨q, rfl, hq⟩ := u32_of hw
      subst e
      exact ⟨q, hc1, hq⟩)
    refine ⟨(List.range l0).map X, fun x hx => ?_, some a, m, by simp, ?_⟩
    · obtain ⟨j, hj, rfl⟩ := List.mem_map.1 hx
      exact (hX j (by simpa using hj)).2
    by_cases h0 : l0 = 0
    · left; subst h0; rfl
    · right
      obtain ⟨b, o, spot⟩ := a
      have hspot : spot = none := by
        have h5 := (World.cells?_some (hX 0 (by omega)).1).2.2 0 (by decide)
        have h6 : W.cell? ((⟨b, o, spot⟩ : Addr)) = some (.int .u32 (X 0 : Int)) := by simpa [Addr.add] using h5
        exact World.cell?_spot h6
      subst hspot
      refine ⟨b, o, rfl, fun j x hj => ?_⟩
      have hjl : j < l0 := by
        have := (List.getElem?_eq_some_iff.1 hj).1
        simpa using this
      have hxe : x = X j := by simpa [hjl] using hj.symm
      subst hxe
      have h5 := (World.cells?_some (hX j hjl).1).2.2
      have e0 := h5 0 (by decide)
      rw [Deep.add_add, add_at2] at e0
      simpa using e0
end Go.Proofs.YtmiaepjlifceeaaDoor
