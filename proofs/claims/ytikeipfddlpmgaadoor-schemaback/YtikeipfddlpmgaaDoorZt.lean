/- Operations of a region that draws its order, taken by number: one that is not run too. -/
import Derived.Test.YtikeipfddlpmgaaDoorZd
namespace Go.Proofs.YtikeipfddlpmgaaDoor
open Lean Elab Tactic Meta Go
def opStx (i : Nat) : TacticM (TSyntax `term) := do
  let t := (← instantiateMVars (← getMainTarget)).consumeMData
  let some e := opAt t.getAppArgs[2]! i | throwError "no such operation"
  Term.exprToSyntax e
elab "lay_out" : tactic => do evalTactic (← `(tactic| try simp only [Act.put, List.setIfInBounds_toArray, List.set_cons_zero, List.set_cons_succ]))
/-- Takes a number that is not run. -/
elab "take_off " i:num : tactic => withMainContext do
  let o ← opStx i.getNat
  evalTactic (← `(tactic| refine wpAnyH_take (i := $i) (oi := $o) (v := undef) rfl (by kernel_rfl) (by kernel_rfl) (by kernel_rfl) (fun _ _ _ h => h) (Or.inr ⟨by rfl, rfl⟩) (by assumption) ?_))
  evalTactic (← `(tactic| lay_out))
/-- Takes a number that is run and yields wherever S holds. -/
elab "take_on " i:num : tactic => withMainContext do
  let o ← opStx i.getNat
  evalTactic (← `(tactic| refine wpAnyH_take (i := $i) (oi := $o) (v := ?_) rfl (by kernel_rfl) (by kernel_rfl) (by kernel_rfl) (fun _ _ _ h => h) (Or.inl ⟨by rfl, ?_⟩) (by assumption) ?_))
  let [_, hy, rest] ← getGoals | throwError "goals"
  setGoals [hy]
  evalTactic (← `(tactic| (intro w hSw; (try dsimp only at hSw); go_simp)))
  unless (← getGoals).isEmpty do evalTactic (← `(tactic| with_reducible rfl))
  setGoals [rest]
  evalTactic (← `(tactic| lay_out))
/-- A number that is a call, the one that may come up: its contract by a tactic, S anew by another. -/
elab "take_call " i:num " (" tac:tactic ")" " (" keep:tactic ")" : tactic => withMainContext do
  let o ← opStx i.getNat
  evalTactic (← `(tactic| refine wpAnyH_ready (rs := [$i]) (by kernel_rfl) (by simp) ?_))
  evalTactic (← `(tactic| refine AllReadyH.cons (o := $o) rfl (fun K hK => ?_) AllReadyH.nil))
  evalTactic tac
  evalTactic (← `(tactic| refine hK.out _ _ ?_ (fun hHeld => ?_)))
  let [hS, rest] ← getGoals | throwError "goals"
  setGoals [hS]
  evalTactic keep
  setGoals [rest]
  evalTactic (← `(tactic| lay_out))
elab "take_done" : tactic => do evalTactic (← `(tactic| refine wpAnyH_done (by kernel_rfl) ?_ _))
end Go.Proofs.YtikeipfddlpmgaaDoor
