/- What every proof of this seat uses: the door's own heap meets the rows' list. -/
import Derived.Test.YtdpoojopipcffaaDoorKl
import Derived.Test.YtdpoojopipcffaaDoorRi
import Derived.Test.YtdpoojopipcffaaDoorCards
import Derived.Test.YtdpoojopipcffaaDoorTie
import Derived.ProofKit
import Derived.LaidMore
import Derived.OpenShut
import Derived.Deep.Grids
import Derived.SevenTiedAt
import Derived.ChangeMaps5
namespace Go.Proofs.YtdpoojopipcffaaDoor
open Go.ChangeShapes Go.WideShapes Go.ChangeAt Go.RowKit
theorem door_met (os : Os) (args : Array Value) : laidMetH Tryd.prog Rows.rollExactRow.laid ((World.doorLaid Tryd.prog 351 os).forCall (fun _ _ => 0) ⟨#[], args, []⟩).memory :=
  laidMetH_of_parts3 (fuel := 8) (laidMet_of_run' 8 (by kernel_rfl) (by kernel_rfl)) (by kernel_rfl) (by kernel_rfl)
theorem door_met4 (os : Os) (args : Array Value) : laidMetH Tryd.prog Rows.rollAgainRow.laid ((World.doorLaid Tryd.prog 351 os).forCall (fun _ _ => 0) ⟨#[], args, []⟩).memory :=
  laidMetH_of_parts3 (fuel := 8) (laidMet_of_run' 8 (by kernel_rfl) (by kernel_rfl)) (by kernel_rfl) (by kernel_rfl)
theorem Tryd.own : ownKnob Tryd.prog.godebug = none := by kernel_rfl
theorem env_of {W : World} (h : laidMetH Tryd.prog Rows.rollExactRow.laid W) : ∃ Ad, Env W Ad := by
  rw [MakeChecks.laidMetH_plain _ _ _ (by kernel_rfl)] at h
  exact env18 h
def ad4 (a1 a2 a6 a17 : Addr) (k : Nat) : Addr := if k = 1 then a1 else if k = 2 then a2 else if k = 6 then a6 else a17
theorem ne_of_text {W : World} {g g' : Nat} {t t' : List UInt8} {a a' : Addr} (h : OneK W g t a) (h' : OneK W g' t' a') (hne : t ≠ t') : a ≠ a' := fun e => by
  obtain ⟨_, _, s, c, x⟩ := h
  obtain ⟨_, _, s', c', x'⟩ := h'
  rw [e, c'] at c
  simp only [Option.some.injEq, Value.string.injEq] at c
  rw [← c, x'] at x
  exact hne x.symm
theorem env4_of {W : World} (h : laidMetH Tryd.prog Rows.rollAgainRow.laid W) : ∃ Ad, Env4 W Ad := by
  rw [MakeChecks.laidMetH_plain _ _ _ (by kernel_rfl)] at h
  have h' : laidMet Tryd.prog [("pasodoble/api.ErrArg", Rows.laid_pasodoble_api_ErrArg), ("pasodoble/api.ErrNil", Rows.laid_pasodoble_api_ErrNil), ("pasodoble/api.ErrFull", Rows.laid_pasodoble_api_ErrFull), ("pasodoble/api.ErrDead", Rows.laid_pasodoble_api_ErrDead)] W := h
  obtain ⟨⟨a1, h1⟩, a2, h2⟩ := two_of h' kl_g1 kl_t1 kl_g2 kl_t2
  obtain ⟨⟨a6, h6⟩, a17, h17⟩ := two_of h'.tail.tail kl_g6 kl_t6 kl_g17 kl_t17
  have n12 := ne_of_text h1 h2 (by decide)
  have n16 := ne_of_text h1 h6 (by decide)
  have n1d := ne_of_text h1 h17 (by decide)
  have n26 := ne_of_text h2 h6 (by decide)
  have n2d := ne_of_text h2 h17 (by decide)
  have n6d := ne_of_text h6 h17 (by decide)
  have F : ∀ {P : Nat → Prop}, P 1 → P 2 → P 6 → P 17 → ∀ k ∈ four, P k := by
    intro P p1 p2 p6 p17 k hk
    simp only [four, List.mem_cons, List.not_mem_nil, or_false] at hk
    rcases hk with rfl | rfl | rfl | rfl <;> assumption
  refine ⟨ad4 a1 a2 a6 a17, F h1.1 h2.1 h6.1 h17.1, F h1.2.1 h2.2.1 h6.2.1 h17.2.1, ?_⟩
  refine F (F ?_ ?_ ?_ ?_) (F ?_ ?_ ?_ ?_) (F ?_ ?_ ?_ ?_) (F ?_ ?_ ?_ ?_)
  all_goals simp [ad4]
  all_goals first | exact n12 | exact n16 | exact n1d | exact n26 | exact n2d | exact n6d | exact n12.symm | exact n16.symm | exact n1d.symm | exact n26.symm | exact n2d.symm | exact n6d.symm
end Go.Proofs.YtdpoojopipcffaaDoor
