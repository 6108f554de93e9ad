/- The document's Find and Resource. -/
import Derived.Test.YtbfjijiakkopeaaDoorScYa
namespace Go.Proofs.YtbfjijiakkopeaaDoor.Sc
open Go.RowKit Go.Shelf
set_option maxHeartbeats 1600000 in
set_option maxRecDepth 100000 in
theorem rfind_any (W : World) (va vb : Value) (cs : List Cmp) (hC : CmpRow W va cs) (hl : cs.length ≤ 1000) (s : ByteArray) :
    Calls Tryd.prog 32 #[.agg #[va, vb], .string s] W fun e W' => e = .returned (foundV (firstI s (cs.map Cmp.s) 0)) ∧ Below W.heap.size W W' := by
  obtain ⟨a, c, rfl, hcap, hlay⟩ := hC
  have HL := hid hlay
  have BA : Hid (Below W.heap.size W (W.alloc (.cells #[.slice a cs.length c, vb] 25))) := (Below.refl _ _).alloc (Nat.le_refl _) _
  have hli : (cs.length : Int) ≤ 1000 := by omega
  clear hlay hcap
  go_enter Tryd.func32, Tryd.ntmps32
  go_wp2_with fail
  go_loop [6] (fun i => ∃ k : Nat, k ≤ cs.length ∧ i = .int .i64 (k : Int) ∧ Hid (firstI s (cs.map Cmp.s) 0 = firstI s ((cs.map Cmp.s).drop k) k)) (fun i => cs.length - (intOf i).toNat)
  case atStart => exact ⟨0, Nat.zero_le _, rfl, rfl⟩
  case round =>
    obtain ⟨k, hk, rfl, HF⟩ := hrel
    by_cases hlt : k < cs.length
    · have hki : (k : Int) < (cs.length : Int) := by omega
      obtain ⟨x, hx⟩ := at_lt cs k hlt
      obtain ⟨b, o, rfl, hc⟩ : ∃ b o, a = some ⟨b, o, none⟩ ∧ ∀ (j : Nat) (x : Cmp), cs[j]? = some x → W.cell? ⟨b, o + j * 7, none⟩ = some (.string x.s) ∧ W.cell? ⟨b, o + j * 7 + 1, none⟩ = some (.int .i64 x.wd) ∧ W.cell? ⟨b, o + j * 7 + 2, none⟩ = some (.bool x.rb) ∧ W.cell? ⟨b, o + j * 7 + 3, none⟩ = some (.int .i64 x.d0) ∧ W.cell? ⟨b, o + j * 7 + 4, none⟩ = some (.int .i64 x.d1) ∧ W.cell? ⟨b, o + j * 7 + 5, none⟩ = some (.int .i64 x.d2) ∧ W.cell? ⟨b, o + j * 7 + 6, none⟩ = some (.int .i64 x.d3) := by
        rcases HL.out with h | h
        · rw [h] at hx; simp at hx
        · exact h
      have c0 := (hc k x hx).1
      have hbl : b < W.heap.size := World.block_lt_of_cell? W _ c0
      have hbn : ¬ (b = W.heap.size) := by omega
      have FN := hid (firstI_next s (cs.map Cmp.s) k x.s (by rw [List.getElem?_map, hx]; rfl))
      clear hc hx
      cases hq : eqS x.s s with
      | true =>
        have R : Hid (firstI s (cs.map Cmp.s) 0 = (k : Int)) := by show _ = _; rw [HF.out, FN.out, hq]; rfl
        clear FN HF
        unfold eqS at hq
        go_wp2_with fail
        refine bodyPost_ret (v := .tuple #[.int .i64 (k : Int), .bool true]) (by simp [results, Tryd.results32, go_sem]) rfl ⟨by rw [R.out]; unfold foundV; rw [if_neg (by omega)], BA.out⟩
      | false =>
        have R : Hid (firstI s (cs.map Cmp.s) 0 = firstI s ((cs.map Cmp.s).drop (k + 1)) (k + 1)) := by show _ = _; rw [HF.out, FN.out, hq]; rfl
        clear FN HF
        unfold eqS at hq
        go_wp2_with fail
        go_round
        case rel => exact ⟨k + 1, by omega, by go_num, R.out⟩
        case measure => simp [intOf]; omega
    · have hki : ¬ ((k : Int) < (cs.length : Int)) := by omega
      have R : Hid (firstI s (cs.map Cmp.s) 0 = -1) := by show _ = _; rw [HF.out, firstI_end _ _ _ (by rw [List.length_map]; omega)]
      go_wp2_with fail
      refine bodyPost_ret (v := .tuple #[.int .i64 0, .bool false]) (by simp [results, Tryd.results32, go_sem]) rfl ⟨by rw [R.out]; rfl, BA.out⟩
set_option maxHeartbeats 1600000 in
set_option maxRecDepth 100000 in
theorem rresource_any (W : World) (va vb : Value) (cs : List Rsc) (hC : RscRow W vb cs) (hl : cs.length ≤ 1000) (s : ByteArray) :
    Calls Tryd.prog 21 #[.agg #[va, vb], .string s] W fun e W' => e = .returned (foundV (firstI s (cs.map Rsc.s) 0)) ∧ Below W.heap.size W W' := by
  obtain ⟨a, c, rfl, hcap, hlay⟩ := hC
  have HL := hid hlay
  have BA : Hid (Below W.heap.size W (W.alloc (.cells #[va, .slice a cs.length c] 25))) := (Below.refl _ _).alloc (Nat.le_refl _) _
  have hli : (cs.length : Int) ≤ 1000 := by omega
  clear hlay hcap
  go_enter Tryd.func21, Tryd.ntmps21
  go_wp2_with fail
  go_loop [6] (fun i => ∃ k : Nat, k ≤ cs.length ∧ i = .int .i64 (k : Int) ∧ Hid (firstI s (cs.map Rsc.s) 0 = firstI s ((cs.map Rsc.s).drop k) k)) (fun i => cs.length - (intOf i).toNat)
  case atStart => exact ⟨0, Nat.zero_le _, rfl, rfl⟩
  case round =>
    obtain ⟨k, hk, rfl, HF⟩ := hrel
    by_cases hlt : k < cs.length
    · have hki : (k : Int) < (cs.length : Int) := by omega
      obtain ⟨x, hx⟩ := at_lt cs k hlt
      obtain ⟨b, o, rfl, hc⟩ : ∃ b o, a = some ⟨b, o, none⟩ ∧ ∀ (j : Nat) (x : Rsc), cs[j]? = some x → W.cell? ⟨b, o + j * 2, none⟩ = some (.string x.s) ∧ W.cell? ⟨b, o + j * 2 + 1, none⟩ = some (.int .i64 x.n) := by
        rcases HL.out with h | h
        · rw [h] at hx; simp at hx
        · exact h
      have c0 := (hc k x hx).1
      have hbl : b < W.heap.size := World.block_lt_of_cell? W _ c0
      have hbn : ¬ (b = W.heap.size) := by omega
      have FN := hid (firstI_next s (cs.map Rsc.s) k x.s (by rw [List.getElem?_map, hx]; rfl))
      clear hc hx
      cases hq : eqS x.s s with
      | true =>
        have R : Hid (firstI s (cs.map Rsc.s) 0 = (k : Int)) := by show _ = _; rw [HF.out, FN.out, hq]; rfl
        clear FN HF
        unfold eqS at hq
        go_wp2_with fail
        refine bodyPost_ret (v := .tuple #[.int .i64 (k : Int), .bool true]) (by simp [results, Tryd.results21, go_sem]) rfl ⟨by rw [R.out]; unfold foundV; rw [if_neg (by omega)], BA.out⟩
      | false =>
        have R : Hid (firstI s (cs.map Rsc.s) 0 = firstI s ((cs.map Rsc.s).drop (k + 1)) (k + 1)) := by show _ = _; rw [HF.out, FN.out, hq]; rfl
        clear FN HF
        unfold eqS at hq
        go_wp2_with fail
        go_round
        case rel => exact ⟨k + 1, by omega, by go_num, R.out⟩
        case measure => simp [intOf]; omega
    · have hki : ¬ ((k : Int) < (cs.length : Int)) := by omega
      have R : Hid (firstI s (cs.map Rsc.s) 0 = -1) := by show _ = _; rw [HF.out, firstI_end _ _ _ (by rw [List.length_map]; omega)]
      go_wp2_with fail
      refine bodyPost_ret (v := .tuple #[.int .i64 0, .bool false]) (by simp [results, Tryd.results21, go_sem]) rfl ⟨by rw [R.out]; rfl, BA.out⟩
end Go.Proofs.YtbfjijiakkopeaaDoor.Sc
