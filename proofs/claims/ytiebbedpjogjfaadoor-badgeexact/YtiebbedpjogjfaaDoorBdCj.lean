/- The document's badges: Turn that is taken. -/
import Derived.Test.YtiebbedpjogjfaaDoorBdCi
namespace Go.Proofs.YtiebbedpjogjfaaDoor.Bd
open Go.RowKit Go.Shelf Go.Maps
section
variable {B : Nat} {W W' : World} {v : Value} {l : Prs} {ub : Nat} {n : Int}
/-- The box with another number. -/
theorem Rb.turn (h : Rb B W ub v n l) (next : Int) : Rb B (W.setCell ⟨ub, 1, none⟩ (.int .i64 next)) ub v next l ∧ St (fun k => k = ub) W (W.setCell ⟨ub, 1, none⟩ (.int .i64 next)) := by
  have s6 := St.setCell (S := fun k => k = ub) (a := W) (p := ⟨ub, 1, none⟩) (.int .i64 next) rfl
  have x6 : (W.setCell ⟨ub, 1, none⟩ (.int .i64 next)).heap[ub]? = some (.cells #[v, .int .i64 next] 54 (0, 0)) := by
    have := heap_setCell_same W ub 1 _ _ (.int .i64 next) h.box
    simpa using this
  exact ⟨⟨x6, h.row.kept s6 fun x hx e => h.ne (by rw [hx, e]), h.low, h.ne⟩, s6⟩
set_option maxHeartbeats 3200000 in
set_option maxRecDepth 100000 in
theorem rturn_ok (h : Rb B W ub v n l) (next : Int) (h1 : 1 ≤ next) (h2 : next ≤ 1073741825) (hl : l.length ≤ 900) {m : Nat} (hm : l.length = m + 1) {x : Int × Int × Int} (hx : l[m]? = some x) (hc : x.1 < next) :
    Calls Tryd.prog 14 #[.pointer (some ⟨ub, 0, none⟩), .int .i64 next] W fun e W' => e = .returned (.tuple #[.int .i64 n, .int .i64 0]) ∧ Rb B W' ub v next l ∧ St (fun k => k = ub) W W' := by
  have H := hid h
  obtain ⟨a, c, rfl⟩ := h.row.slice
  obtain ⟨b, rfl, thr⟩ := h.row.at hx
  have c0 := h.c0
  rw [hm] at c0
  have d0 := thr.c0
  have hd1 : decide (next < 1) = false := decide_eq_false (by omega)
  have hd2 : decide (1073741825 < next) = false := decide_eq_false (by omega)
  have hd3 : decide ((0 : Int) < ((m + 1 : Nat) : Int)) = true := decide_eq_true (by omega)
  have hd4 : decide (next ≤ x.1) = false := decide_eq_false (by omega)
  have s1 : IntKind.i64.wrap (((m + 1 : Nat) : Int) - 1) = (m : Int) := by rw [show ((m + 1 : Nat) : Int) - 1 = (m : Int) by omega]; exact wrap_mid (by omega) (by omega)
  have hmi : (m : Int) ≤ 900 := by omega
  clear h thr hx hm hl h1 h2 hc
  go_enter Tryd.func14, Tryd.ntmps14
  go_upto_region 1 with fail
  go_quiet (fail)
  have cc : ∀ k, (W.drewN k).cell? ⟨ub, 1, none⟩ = some (.int .i64 n) := fun k => (H.out.later (drewN_below W k)).c1
  have fz : ∀ k, (W.drewN k).frozen? ⟨ub, 1, none⟩ = false := fun k => blk_free (H.out.later (drewN_below W k)).box 1
  have G : Hid (∀ k, Rb B ((W.drewN k).setCell ⟨ub, 1, none⟩ (.int .i64 next)) ub (.slice (some ⟨b, 0, none⟩) l.length c) next l ∧ St (fun k => k = ub) W ((W.drewN k).setCell ⟨ub, 1, none⟩ (.int .i64 next))) := fun k => ⟨((H.out.later (drewN_below W k)).turn next).1, (St.of_below (drewN_below W k)).trans ((H.out.later (drewN_below W k)).turn next).2 fun x _ e => e⟩
  go_wp2_with fail
  exact bodyPost_ret (v := .tuple #[.int .i64 n, .int .i64 0]) (by simp [results, Tryd.results14, go_sem]) rfl ⟨rfl, (G.out _).1, (G.out _).2⟩
end
end Go.Proofs.YtiebbedpjogjfaaDoor.Bd
