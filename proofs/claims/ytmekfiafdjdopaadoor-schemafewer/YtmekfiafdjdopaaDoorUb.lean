/- New. -/
import Derived.Test.YtmekfiafdjdopaaDoorUa
import Derived.BigQuiet
namespace Go.Proofs.YtmekfiafdjdopaaDoor
open Go.RowKit Go.Shelf
def partV (k : Int) (x : Cmp) (f : Int) : Value := .agg #[.int .i64 k, .int .i64 x.d0, .int .i64 x.d1, .int .i64 x.d2, .int .i64 x.d3, .int .i64 f]
set_option maxHeartbeats 1600000 in
set_option maxRecDepth 100000 in
theorem new_in (W : World) (va vb : Value) (hvb : ∃ a l c, vb = .slice a l c) (cs : List Cmp) (hC : CmpRow W va cs) (hl : cs.length ≤ 1000) (k : Nat) (x : Cmp) (hx : cs[k]? = some x) (f : Int) :
    Calls Tryd.prog 17 #[.agg #[va, vb], .int .i64 (k : Int), .int .i64 f] W fun e W' => e = .returned (.tuple #[.agg #[.int .i64 (k : Int), .int .i64 x.d0, .int .i64 x.d1, .int .i64 x.d2, .int .i64 x.d3, .int .i64 f], .nilIface]) ∧ Below W.heap.size W W' := by
  obtain ⟨a, c, rfl, hcap, hlay⟩ := hC
  obtain ⟨a', l', c', rfl⟩ := hvb
  have hk := (List.getElem?_eq_some_iff.1 hx).1
  have hki : (k : Int) < (cs.length : Int) := by omega
  have hk0 : ¬ ((k : Int) < 0) := by omega
  have hk1 : ¬ ((cs.length : Int) ≤ (k : Int)) := by omega
  have hli : (cs.length : Int) ≤ 1000 := by omega
  obtain ⟨b, o, rfl, hc⟩ : ∃ b o, a = some ⟨b, o, none⟩ ∧ ∀ (j : Nat) (x : Cmp), cs[j]? = some x → W.cell? ⟨b, o + j * 7, none⟩ = some (.string x.s) ∧ W.cell? ⟨b, o + j * 7 + 1, none⟩ = some (.int .i64 x.wd) ∧ W.cell? ⟨b, o + j * 7 + 2, none⟩ = some (.bool x.rb) ∧ W.cell? ⟨b, o + j * 7 + 3, none⟩ = some (.int .i64 x.d0) ∧ W.cell? ⟨b, o + j * 7 + 4, none⟩ = some (.int .i64 x.d1) ∧ W.cell? ⟨b, o + j * 7 + 5, none⟩ = some (.int .i64 x.d2) ∧ W.cell? ⟨b, o + j * 7 + 6, none⟩ = some (.int .i64 x.d3) := by
    rcases hlay with h | h
    · rw [h] at hx; simp at hx
    · exact h
  obtain ⟨c0, c1, c2, c3, c4, c5, c6⟩ := hc k x hx
  have hbl : b < W.heap.size := World.block_lt_of_cell? W _ c0
  have hbn : ¬ (b = W.heap.size) := by omega
  have hbn1 : ¬ (b = W.heap.size + 1) := by omega
  clear hc hx c0 c1 c2 hlay
  go_enter Tryd.func17, Tryd.ntmps17
  go_wp2_with fail
  refine bodyPost_ret (v := .tuple #[.agg #[.int .i64 (k : Int), .int .i64 x.d0, .int .i64 x.d1, .int .i64 x.d2, .int .i64 x.d3, .int .i64 f], .nilIface]) (by simp [results, Tryd.results17, go_sem]) rfl ⟨rfl, ?_⟩
  exact ((Below.refl _ _).alloc (Nat.le_refl _) _).alloc (by simp) _
set_option maxHeartbeats 1600000 in
set_option maxRecDepth 100000 in
theorem new_out (Ad : Nat → Addr) (W : World) (hE : Env W Ad) (va vb : Value) (hvb : ∃ a l c, vb = .slice a l c) (cs : List Cmp) (hC : CmpRow W va cs) (hl : cs.length ≤ 1000) (k : Int) (hk : k < 0 ∨ (cs.length : Int) ≤ k) (f : Int) :
    Calls Tryd.prog 17 #[.agg #[va, vb], .int .i64 k, .int .i64 f] W fun e W' => e = .returned (.tuple #[.agg #[.int .i64 0, .int .i64 0, .int .i64 0, .int .i64 0, .int .i64 0, .int .i64 0], .iface 147 (.pointer (some (Ad 1)))]) ∧ Below W.heap.size W W' := by
  obtain ⟨a, c, rfl, hcap, hlay⟩ := hC
  obtain ⟨a', l', c', rfl⟩ := hvb
  have e1 : W.cell? ⟨0, 0, none⟩ = some (.iface 147 (.pointer (some (Ad 1)))) := hE.cell 1 (by decide) (by decide)
  have h0 : 0 < W.heap.size := World.block_lt_of_cell? W _ e1
  have h0n : ¬ (0 = W.heap.size) := by omega
  have hli : (cs.length : Int) ≤ 1000 := by omega
  clear hlay hE
  by_cases h1 : k < 0
  · clear hk
    go_enter Tryd.func17, Tryd.ntmps17
    go_wp2_with fail
    go_region
    all_goals go_wp2_with fail
    all_goals refine bodyPost_ret (v := .tuple #[.agg #[.int .i64 0, .int .i64 0, .int .i64 0, .int .i64 0, .int .i64 0, .int .i64 0], .iface 147 (.pointer (some (Ad 1)))]) (by simp [results, Tryd.results17, go_sem]) rfl ⟨rfl, ?_⟩
    all_goals first | exact ((Below.refl _ _).alloc (Nat.le_refl _) _).alloc (by simp) _ | exact (((Below.refl _ _).alloc (Nat.le_refl _) _).alloc (by simp) _).drew
  · have h2 : (cs.length : Int) ≤ k := by omega
    clear hk
    go_enter Tryd.func17, Tryd.ntmps17
    go_wp2_with fail
    go_region
    all_goals go_wp2_with fail
    all_goals refine bodyPost_ret (v := .tuple #[.agg #[.int .i64 0, .int .i64 0, .int .i64 0, .int .i64 0, .int .i64 0, .int .i64 0], .iface 147 (.pointer (some (Ad 1)))]) (by simp [results, Tryd.results17, go_sem]) rfl ⟨rfl, ?_⟩
    all_goals first | exact ((Below.refl _ _).alloc (Nat.le_refl _) _).alloc (by simp) _ | exact (((Below.refl _ _).alloc (Nat.le_refl _) _).alloc (by simp) _).drew
end Go.Proofs.YtmekfiafdjdopaaDoor
