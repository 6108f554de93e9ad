/- The document's Find, Resource and Kinds. -/
import Derived.Test.YtmekfiafdjdopaaDoorYa
namespace Go.Proofs.YtmekfiafdjdopaaDoor
open Go.RowKit Go.Shelf
set_option maxHeartbeats 1600000 in
set_option maxRecDepth 100000 in
theorem rfind_any (W : World) (va vb : Value) (cs : List Cmp) (hC : CmpRow W va cs) (hl : cs.length ≤ 1000) (s : ByteArray) :
    Calls Tryd.prog 14 #[.agg #[va, vb], .string s] W fun e W' => e = .returned (foundV (firstI s (cs.map Cmp.s) 0)) ∧ Below W.heap.size W W' := by
  obtain ⟨a, c, rfl, hcap, hlay⟩ := hC
  have HL := hid hlay
  have BA : Hid (Below W.heap.size W (W.alloc (.cells #[.slice a cs.length c, vb] 25))) := (Below.refl _ _).alloc (Nat.le_refl _) _
  have hli : (cs.length : Int) ≤ 1000 := by omega
  clear hlay hcap
  go_enter Tryd.func14, Tryd.ntmps14
  go_wp2_with fail
  go_loop [6] (fun i => ∃ k : Nat, k ≤ cs.length ∧ i = .int .i64 (k : Int) ∧ Hid (firstI s (cs.map Cmp.s) 0 = firstI s ((cs.map Cmp.s).drop k) k)) (fun i => cs.length - (intOf i).toNat)
  case atStart => exact ⟨0, Nat.zero_le _, rfl, rfl⟩
  case round =>
    obtain ⟨k, hk, rfl, HF⟩ := hrel
    by_cases hlt : k < cs.length
    · have hki : (k : Int) < (cs.length : Int) := by omega
      obtain ⟨x, hx⟩ := at_lt cs k hlt
      obtain ⟨b, o, rfl, hc⟩ : ∃ b o, a = some ⟨b, o, none⟩ ∧ ∀ (j : Nat) (x : Cmp), cs[j]? = some x → W.cell? ⟨b, o + j * 7, none⟩ = some (.string x.s) ∧ W.cell? ⟨b, o + j * 7 + 1, none⟩ = some (.int .i64 x.wd) ∧ W.cell? ⟨b, o + j * 7 + 2, none⟩ = some (.bool x.rb) ∧ W.cell? ⟨b, o + j * 7 + 3, none⟩ = some (.int .i64 x.d0) ∧ W.cell? ⟨b, o + j * 7 + 4, none⟩ = some (.int .i64 x.d1) ∧ W.cell? ⟨b, o + j * 7 + 5, none⟩ = some (.int .i64 x.d2) ∧ W.cell? ⟨b, o + j * 7 + 6, none⟩ = some (.int .i64 x.d3) := by
        rcases HL.out with h | h
        · rw [h] at hx; simp at hx
        · exact h
      have c0 := (hc k x hx).1
      have hbl : b < W.heap.size := World.block_lt_of_cell? W _ c0
      have hbn : ¬ (b = W.heap.size) := by omega
      have FN := hid (firstI_next s (cs.map Cmp.s) k x.s (by rw [List.getElem?_map, hx]; rfl))
      clear hc hx
      cases hq : eqS x.s s with
      | true =>
        have R : Hid (firstI s (cs.map Cmp.s) 0 = (k : Int)) := by show _ = _; rw [HF.out, FN.out, hq]; rfl
        clear FN HF
        unfold eqS at hq
        go_wp2_with fail
        refine bodyPost_ret (v := .tuple #[.int .i64 (k : Int), .bool true]) (by simp [results, Tryd.results14, go_sem]) rfl ⟨by rw [R.out]; unfold foundV; rw [if_neg (by omega)], BA.out⟩
      | false =>
        have R : Hid (firstI s (cs.map Cmp.s) 0 = firstI s ((cs.map Cmp.s).drop (k + 1)) (k + 1)) := by show _ = _; rw [HF.out, FN.out, hq]; rfl
        clear FN HF
        unfold eqS at hq
        go_wp2_with fail
        go_round
        case rel => exact ⟨k + 1, by omega, by go_num, R.out⟩
        case measure => simp [intOf]; omega
    · have hki : ¬ ((k : Int) < (cs.length : Int)) := by omega
      have R : Hid (firstI s (cs.map Cmp.s) 0 = -1) := by show _ = _; rw [HF.out, firstI_end _ _ _ (by rw [List.length_map]; omega)]
      go_wp2_with fail
      refine bodyPost_ret (v := .tuple #[.int .i64 0, .bool false]) (by simp [results, Tryd.results14, go_sem]) rfl ⟨by rw [R.out]; rfl, BA.out⟩
set_option maxHeartbeats 1600000 in
set_option maxRecDepth 100000 in
theorem rresource_any (W : World) (va vb : Value) (cs : List Rsc) (hC : RscRow W vb cs) (hl : cs.length ≤ 1000) (s : ByteArray) :
    Calls Tryd.prog 16 #[.agg #[va, vb], .string s] W fun e W' => e = .returned (foundV (firstI s (cs.map Rsc.s) 0)) ∧ Below W.heap.size W W' := by
  obtain ⟨a, c, rfl, hcap, hlay⟩ := hC
  have HL := hid hlay
  have BA : Hid (Below W.heap.size W (W.alloc (.cells #[va, .slice a cs.length c] 25))) := (Below.refl _ _).alloc (Nat.le_refl _) _
  have hli : (cs.length : Int) ≤ 1000 := by omega
  clear hlay hcap
  go_enter Tryd.func16, Tryd.ntmps16
  go_wp2_with fail
  go_loop [6] (fun i => ∃ k : Nat, k ≤ cs.length ∧ i = .int .i64 (k : Int) ∧ Hid (firstI s (cs.map Rsc.s) 0 = firstI s ((cs.map Rsc.s).drop k) k)) (fun i => cs.length - (intOf i).toNat)
  case atStart => exact ⟨0, Nat.zero_le _, rfl, rfl⟩
  case round =>
    obtain ⟨k, hk, rfl, HF⟩ := hrel
    by_cases hlt : k < cs.length
    · have hki : (k : Int) < (cs.length : Int) := by omega
      obtain ⟨x, hx⟩ := at_lt cs k hlt
      obtain ⟨b, o, rfl, hc⟩ : ∃ b o, a = some ⟨b, o, none⟩ ∧ ∀ (j : Nat) (x : Rsc), cs[j]? = some x → W.cell? ⟨b, o + j * 2, none⟩ = some (.string x.s) ∧ W.cell? ⟨b, o + j * 2 + 1, none⟩ = some (.int .i64 x.n) := by
        rcases HL.out with h | h
        · rw [h] at hx; simp at hx
        · exact h
      have c0 := (hc k x hx).1
      have hbl : b < W.heap.size := World.block_lt_of_cell? W _ c0
      have hbn : ¬ (b = W.heap.size) := by omega
      have FN := hid (firstI_next s (cs.map Rsc.s) k x.s (by rw [List.getElem?_map, hx]; rfl))
      clear hc hx
      cases hq : eqS x.s s with
      | true =>
        have R : Hid (firstI s (cs.map Rsc.s) 0 = (k : Int)) := by show _ = _; rw [HF.out, FN.out, hq]; rfl
        clear FN HF
        unfold eqS at hq
        go_wp2_with fail
        refine bodyPost_ret (v := .tuple #[.int .i64 (k : Int), .bool true]) (by simp [results, Tryd.results16, go_sem]) rfl ⟨by rw [R.out]; unfold foundV; rw [if_neg (by omega)], BA.out⟩
      | false =>
        have R : Hid (firstI s (cs.map Rsc.s) 0 = firstI s ((cs.map Rsc.s).drop (k + 1)) (k + 1)) := by show _ = _; rw [HF.out, FN.out, hq]; rfl
        clear FN HF
        unfold eqS at hq
        go_wp2_with fail
        go_round
        case rel => exact ⟨k + 1, by omega, by go_num, R.out⟩
        case measure => simp [intOf]; omega
    · have hki : ¬ ((k : Int) < (cs.length : Int)) := by omega
      have R : Hid (firstI s (cs.map Rsc.s) 0 = -1) := by show _ = _; rw [HF.out, firstI_end _ _ _ (by rw [List.length_map]; omega)]
      go_wp2_with fail
      refine bodyPost_ret (v := .tuple #[.int .i64 0, .bool false]) (by simp [results, Tryd.results16, go_sem]) rfl ⟨by rw [R.out]; rfl, BA.out⟩
theorem bitI_in (k : Nat) (h : k < 32) : bitI (k : Int) = 2 ^ k % 4294967296 := by
  unfold bitI
  rw [if_pos (by omega)]
  simp
set_option maxHeartbeats 1600000 in
set_option maxRecDepth 100000 in
theorem rkinds_any (W : World) (va vb : Value) (cs : List Cmp) (hC : CmpRow W va cs) (hl : cs.length ≤ 1000) (bb : Bool) :
    Calls Tryd.prog 22 #[.agg #[va, vb], .bool bb] W fun e W' => e = .returned (.int .u32 (kindM cs bb (min cs.length 32))) ∧ Below W.heap.size W W' := by
  obtain ⟨a, c, rfl, hcap, hlay⟩ := hC
  have HL := hid hlay
  have BA : Hid (Below W.heap.size W (W.alloc (.cells #[.slice a cs.length c, vb] 25))) := (Below.refl _ _).alloc (Nat.le_refl _) _
  have hli : (cs.length : Int) ≤ 1000 := by omega
  clear hlay hcap
  go_enter Tryd.func22, Tryd.ntmps22
  go_wp2_with fail
  go_loop [5, 6] (fun m i => ∃ k : Nat, k ≤ min cs.length 32 ∧ i = .int .i64 (k : Int) ∧ ∃ z : Int, Hid (z = kindM cs bb k) ∧ m = .int .u32 z) (fun _ i => min cs.length 32 - (intOf i).toNat)
  case atStart => exact ⟨0, Nat.zero_le _, rfl, 0, rfl, rfl⟩
  case round =>
    obtain ⟨k, hk, rfl, z, HZ, rfl⟩ := hrel
    by_cases hlt : k < cs.length
    · have hki : (k : Int) < (cs.length : Int) := by omega
      by_cases h32 : k < 32
      · have h32i : (k : Int) < 32 := by omega
        obtain ⟨x, hx⟩ := at_lt cs k hlt
        obtain ⟨b, o, rfl, hc⟩ : ∃ b o, a = some ⟨b, o, none⟩ ∧ ∀ (j : Nat) (x : Cmp), cs[j]? = some x → W.cell? ⟨b, o + j * 7, none⟩ = some (.string x.s) ∧ W.cell? ⟨b, o + j * 7 + 1, none⟩ = some (.int .i64 x.wd) ∧ W.cell? ⟨b, o + j * 7 + 2, none⟩ = some (.bool x.rb) ∧ W.cell? ⟨b, o + j * 7 + 3, none⟩ = some (.int .i64 x.d0) ∧ W.cell? ⟨b, o + j * 7 + 4, none⟩ = some (.int .i64 x.d1) ∧ W.cell? ⟨b, o + j * 7 + 5, none⟩ = some (.int .i64 x.d2) ∧ W.cell? ⟨b, o + j * 7 + 6, none⟩ = some (.int .i64 x.d3) := by
          rcases HL.out with h | h
          · rw [h] at hx; simp at hx
          · exact h
        have c2 := (hc k x hx).2.2.1
        have hbl : b < W.heap.size := World.block_lt_of_cell? W _ c2
        have hbn : ¬ (b = W.heap.size) := by omega
        have KN := hid (kindM_next bb hx)
        have BI := hid (bitI_in k h32)
        clear hc hx
        by_cases hq : x.rb = bb
        · have q : (x.rb == bb) = true := by simp [hq]
          have R : Hid (bits .or .u32 z (2 ^ k % 4294967296) = kindM cs bb (k + 1)) := by show _ = _; rw [KN.out, if_pos q, ← HZ.out, ← BI.out]; rfl
          clear hq KN BI
          go_wp2_with fail
          go_round
          case rel => exact ⟨k + 1, by omega, by go_num, _, R.out, rfl⟩
          case measure => simp [intOf]; omega
        · have q : (x.rb == bb) = false := by simp [hq]
          have R : Hid (z = kindM cs bb (k + 1)) := by show _ = _; rw [KN.out, if_neg (by rw [q]; decide), ← HZ.out]
          clear hq KN BI
          go_wp2_with fail
          go_round
          case rel => exact ⟨k + 1, by omega, by go_num, _, R.out, rfl⟩
          case measure => simp [intOf]; omega
      · have h32i : ¬ ((k : Int) < 32) := by omega
        have R : Hid (z = kindM cs bb (min cs.length 32)) := by show _ = _; rw [HZ.out, show k = min cs.length 32 by omega]
        go_wp2_with fail
        go_ret
        exact ⟨by rw [R.out]; rfl, BA.out⟩
    · have hki : ¬ ((k : Int) < (cs.length : Int)) := by omega
      have R : Hid (z = kindM cs bb (min cs.length 32)) := by show _ = _; rw [HZ.out, show k = min cs.length 32 by omega]
      go_wp2_with fail
      go_ret
      exact ⟨by rw [R.out]; rfl, BA.out⟩
end Go.Proofs.YtmekfiafdjdopaaDoor
