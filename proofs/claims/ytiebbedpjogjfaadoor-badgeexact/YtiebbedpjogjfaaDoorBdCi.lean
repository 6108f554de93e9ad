/- The document's badges: Turn. -/
import Derived.Test.YtiebbedpjogjfaaDoorBdCh
import Derived.Test.YtiebbedpjogjfaaDoorBdBm
namespace Go.Proofs.YtiebbedpjogjfaaDoor.Bd
open Go.RowKit Go.Shelf Go.Maps
section
variable {B : Nat} {W W' : World} {v : Value} {l : Prs} {ub : Nat} {n : Int}
set_option maxHeartbeats 3200000 in
set_option maxRecDepth 100000 in
theorem rturn_out (next : Int) (hn : next < 1 ∨ 1073741825 < next) :
    Calls Tryd.prog 14 #[.pointer (some ⟨ub, 0, none⟩), .int .i64 next] W fun e W' => e = .returned (.tuple #[.int .i64 0, .int .i64 1]) ∧ Below W.heap.size W W' := by
  by_cases h1 : next < 1
  · have hd : decide (next < 1) = true := decide_eq_true h1
    clear hn h1
    go_enter Tryd.func14, Tryd.ntmps14
    go_upto_region 1 with fail
    go_quiet (fail)
    go_wp2_with fail
    exact bodyPost_ret (v := .tuple #[.int .i64 0, .int .i64 1]) (by simp [results, Tryd.results14, go_sem]) rfl ⟨rfl, drewN_below W _⟩
  · have h2 : 1073741825 < next := by omega
    have hd : decide (next < 1) = false := decide_eq_false h1
    have hd2 : decide (1073741825 < next) = true := decide_eq_true h2
    clear hn h1 h2
    go_enter Tryd.func14, Tryd.ntmps14
    go_upto_region 1 with fail
    go_quiet (fail)
    go_wp2_with fail
    exact bodyPost_ret (v := .tuple #[.int .i64 0, .int .i64 1]) (by simp [results, Tryd.results14, go_sem]) rfl ⟨rfl, drewN_below W _⟩
set_option maxHeartbeats 3200000 in
set_option maxRecDepth 100000 in
theorem rturn_last (h : Rb B W ub v n l) (next : Int) (h1 : 1 ≤ next) (h2 : next ≤ 1073741825) (hl : l.length ≤ 900) {m : Nat} (hm : l.length = m + 1) {x : Int × Int × Int} (hx : l[m]? = some x) (hc : next ≤ x.1) :
    Calls Tryd.prog 14 #[.pointer (some ⟨ub, 0, none⟩), .int .i64 next] W fun e W' => e = .returned (.tuple #[.int .i64 0, .int .i64 1]) ∧ Below W.heap.size W W' := by
  obtain ⟨a, c, rfl⟩ := h.row.slice
  obtain ⟨b, rfl, thr⟩ := h.row.at hx
  have c0 := h.c0
  rw [hm] at c0
  have d0 := thr.c0
  have hd1 : decide (next < 1) = false := decide_eq_false (by omega)
  have hd2 : decide (1073741825 < next) = false := decide_eq_false (by omega)
  have hd3 : decide ((0 : Int) < ((m + 1 : Nat) : Int)) = true := decide_eq_true (by omega)
  have hd4 : decide (next ≤ x.1) = true := decide_eq_true hc
  have s1 : IntKind.i64.wrap (((m + 1 : Nat) : Int) - 1) = (m : Int) := by rw [show ((m + 1 : Nat) : Int) - 1 = (m : Int) by omega]; exact wrap_mid (by omega) (by omega)
  have hmi : (m : Int) ≤ 900 := by omega
  clear h thr hx hm hl h1 h2 hc
  go_enter Tryd.func14, Tryd.ntmps14
  go_upto_region 1 with fail
  go_quiet (fail)
  go_wp2_with fail
  exact bodyPost_ret (v := .tuple #[.int .i64 0, .int .i64 1]) (by simp [results, Tryd.results14, go_sem]) rfl ⟨rfl, drewN_below W _⟩
end
end Go.Proofs.YtiebbedpjogjfaaDoor.Bd
