/- What is left behind Forget, plainly. -/
import Derived.Test.YtnbgjbdbbmpoaaaDoorJoPb
namespace Go.Proofs.YtnbgjbdbbmpoaaaDoor.Jo
open Go.RowKit Go.Shelf Go.Maps
theorem stF_stays (cs : List Int) {n k : Nat} (hk : k ≤ n) (hn : 1 ≤ n) : staysP (stF 1 cs n) (k : Int) = min k (n - 1) := by
  unfold staysP
  have := stF_below (d := 1) (by decide) cs k n
  rw [Int.one_mul] at this
  rw [this, stF_len]
  omega
theorem totP_app (a b : List (Int × List Ue)) : totP (a ++ b) = totP a + totP b := by simp [totP]
theorem stF_tot_drop (d : Int) (cs : List Int) {n m : Nat} (h : m ≤ n) : totP ((stF d cs n).drop m) = gN cs n - gN cs m := by
  have e := stF_tot d cs n
  conv at e => lhs; rw [← List.take_append_drop m (stF d cs n)]
  rw [totP_app, stF_take d cs h, stF_tot] at e
  omega
theorem stF_at (d : Int) (cs : List Int) {n i : Nat} (h : i < n) : (stF d cs n)[i]? = some (d * (i : Int), rowE (gN cs i) (cq (cs[i]?.getD 0))) := by
  simp [stF, h]
theorem stF_mk (cs : List Int) {n m i : Nat} (h : m + i < n) : (((stF 1 cs n).drop m).map Prod.fst)[i]? = some ((m + i : Nat) : Int) := by
  rw [List.getElem?_map, List.getElem?_drop, stF_at 1 cs h]
  simp
theorem belowP_app (a b : List (Int × List Ue)) (x : Int) : belowP (a ++ b) x = belowP a x + belowP b x := by
  unfold belowP
  exact List.countP_append
theorem stF_below_drop (cs : List Int) {n m i : Nat} (h : m + i < n) : belowP ((stF 1 cs n).drop m) ((m + i : Nat) : Int) = i := by
  have e := stF_below (d := 1) (by decide) cs (m + i) n
  have f := stF_below (d := 1) (by decide) cs (m + i) m
  rw [Int.one_mul] at e f
  conv at e => lhs; rw [← List.take_append_drop m (stF 1 cs n)]
  rw [belowP_app, stF_take 1 cs (by omega), f] at e
  omega
theorem stF_marked_drop (cs : List Int) {n m i : Nat} (h : m + i < n) : markedP ((stF 1 cs n).drop m) ((m + i : Nat) : Int) = true := by
  unfold markedP
  rw [List.any_eq_true]
  refine ⟨(1 * ((m + i : Nat) : Int), rowE (gN cs (m + i)) (cq (cs[m + i]?.getD 0))), List.mem_of_getElem? (i := i) ?_, by simp⟩
  rw [List.getElem?_drop, stF_at 1 cs h]
theorem stF_acc_drop (d : Int) (cs : List Int) {n m i : Nat} (h : m + i ≤ n) : (accPl (((stF d cs n).drop m).drop i)).length = gN cs n - gN cs (m + i) := by
  rw [List.drop_drop, stF_acc d cs h, List.length_reverse, rowE_len]
end Go.Proofs.YtnbgjbdbbmpoaaaDoor.Jo
