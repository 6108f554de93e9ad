/- slices.Repeat of one number. -/
import Derived.Test.YtkhhiddemihnbaaDoorCwBc
import Derived.Test.YtkhhiddemihnbaaDoorCwMul
import Derived.Laws.CopyRow
import Derived.Laws.MakeOwn
namespace Go.Proofs.YtkhhiddemihnbaaDoor.Cw
open Go.RowKit Go.Shelf
theorem infoSz : (Tryd.prog.info? 3).map (·.size) = some 1 := by kernel_rfl
theorem made_ints (n : Nat) : madeCells (Value.int .i64 0).cells (n * 1) = ((List.replicate n 0).map gZ).toArray := by
  apply Array.ext_getElem?
  intro j
  by_cases hj : j < n
  · simp [madeCells, gZ, Value.cells, hj, Nat.mod_one]
  · simp [madeCells, gZ, Value.cells, hj]
theorem run_mk (W : World) (n : Nat) (hn : n ≤ 1000) : (Instr.makeSlice 51 (.int .i64 (n : Int)) (.int .i64 (n : Int))).run Tryd.prog W = .ok (.slice (some ⟨W.heap.size, 0, none⟩) n n) (W.alloc (.cells ((List.replicate n 0).map gZ).toArray 3)) := by
  obtain ⟨i0, hi, hz0, hz1, hz2⟩ := info_parts infoIntW
  have h := run_makeSlice (P := Tryd.prog) W 51 3 i0 (.int .i64 0) Tryd.underlying51 hi hz0 .i64 .i64 (n : Int) (n : Int) (by omega) (by omega) (by rw [hz1]; simp; omega) (by rw [hz2]; omega) (by omega)
  rw [hz1, Int.toNat_natCast, made_ints] at h
  exact h
/-- So many of the number are laid. -/
def repL (x : Int) (N n : Nat) : List Int := List.replicate n x ++ List.replicate (N - n) 0
theorem rep_next (x : Int) (N n k : Nat) (h : n + k ≤ N) : ((repL x N n).map gZ).take n ++ (List.replicate k x).map gZ ++ ((repL x N n).map gZ).drop (n + ((List.replicate k x).map gZ).length) = (repL x N (n + k)).map gZ := by
  unfold repL
  rw [← List.map_take, ← List.map_drop, ← List.map_append, ← List.map_append]
  congr 1
  rw [List.take_append_of_le_length (by simp), List.take_of_length_le (by simp), List.length_map, List.length_replicate, List.drop_append, List.drop_of_length_le (by simp), List.length_replicate, List.drop_replicate]
  simp only [List.nil_append]
  rw [show N - n - (n + k - n) = N - (n + k) by omega, List.replicate_append_replicate]
theorem rep_full (x : Int) (N : Nat) : repL x N N = List.replicate N x := by simp [repL]
theorem rep_cell (x : Int) {N n j : Nat} (h : j < n) : (repL x N n)[j]? = some x := by
  unfold repL
  rw [List.getElem?_append_left (by simpa using h), List.getElem?_replicate, if_pos h]
theorem rep_len (x : Int) {N n : Nat} (h : n ≤ N) : (repL x N n).length = N := by
  simp [repL]
  omega
theorem drewN_belowW (W : World) : ∀ m, Below W.heap.size W (W.drewN m)
  | 0 => Below.refl _ _
  | m + 1 => Bq (Below.refl _ _) (m + 1)
theorem setRow_otherW (w : World) (g k : Nat) (cs : Array Value) (h : k ≠ g) : (w.setRow g cs).heap[k]? = w.heap[k]? := by
  unfold World.setRow
  simp [Array.getElem?_modify]
  intro e
  exact absurd e.symm h
set_option maxHeartbeats 3200000 in
set_option maxRecDepth 100000 in
theorem repeat_any (W : World) (xb : Nat) (x : Int) (hx : W.cell? ⟨xb, 0, none⟩ = some (.int .i64 x)) (M : Nat) (hM : M + 1 ≤ 1000) :
    Calls Tryd.prog 38 #[.slice (some ⟨xb, 0, none⟩) 1 1, .int .i64 ((M + 1 : Nat) : Int)] W fun e W' => e = .returned (.slice (some ⟨W.heap.size, 0, none⟩) (M + 1) (M + 1)) ∧ W'.heap[W.heap.size]? = some (.cells ((List.replicate (M + 1) x).map gZ).toArray 3 (0, 0)) ∧ Below W.heap.size W W' := by
  obtain ⟨N, hN⟩ : ∃ N, N = M + 1 := ⟨_, rfl⟩
  rw [← hN]
  have hN0 : Hid (0 < N ∧ N ≤ 1000) := by show _ ∧ _; omega
  clear hN hM M
  have hlo : (0 : Int) ≤ (N : Int) := by omega
  have hhi : (N : Int) ≤ 1000 := by have := hN0.out; omega
  have MU := hid (Tryd.bits_Mul 1 N (by decide) (by have := hN0.out; omega) W)
  have e1 : (1 * N / 18446744073709551616 : Nat) = 0 := by have := hN0.out; omega
  have e2 : (1 * N % 18446744073709551616 : Nat) = N := by have := hN0.out; omega
  rw [e1, e2] at MU
  clear e1 e2
  have MK := run_mk W N hN0.out.2
  obtain ⟨w1, hw1⟩ : ∃ w1, w1 = W.alloc (.cells ((List.replicate N 0).map gZ).toArray 3) := ⟨_, rfl⟩
  rw [← hw1] at MK
  have b1 : Below W.heap.size W w1 := by rw [hw1]; exact bAl _ _
  have g1 : w1.heap[W.heap.size]? = some (.cells ((repL x N 0).map gZ).toArray 3 (0, 0)) := by
    have e : repL x N 0 = List.replicate N 0 := by simp [repL]
    rw [hw1, e]
    exact heap_alloc_new W _
  have CP1 : ∀ ty, (Builtin.copy_ #[51, 51] ty #[.slice (some ⟨W.heap.size, 0, none⟩) N N, .slice (some ⟨xb, 0, none⟩) 1 1]).run Tryd.prog w1 = .ok (.int .i64 1) (w1.setRow W.heap.size ((repL x N 1).map gZ).toArray) := by
    intro ty
    have hh := run_copy_row (P := Tryd.prog) w1 51 51 ty 3 W.heap.size 0 N N ⟨xb, 0, none⟩ 1 1 ((repL x N 0).map gZ).toArray 3 ((List.replicate 1 x).map gZ) Tryd.underlying51 infoSz g1 (by rw [List.length_map, List.length_replicate]; exact (Nat.min_eq_left hN0.out.1).symm) (fun j v hv => by
      rw [add_at]
      match j, hv with
      | 0, hv =>
        simp [gZ] at hv
        subst hv
        exact seen b1 (Nat.le_refl _) hx
      | j + 1, hv => simp at hv) (by simp [rep_len]; exact hN0.out.1) (by intro v hv; simp at hv; subst hv; rfl)
    have e := rep_next x N 0 1 (by have := hN0.out; omega)
    dsimp only at hh
    rw [e] at hh
    exact hh
  have B1 := hid b1
  have G1 := hid g1
  obtain ⟨w2, hw2⟩ : ∃ w2, w2 = w1.setRow W.heap.size ((repL x N 1).map gZ).toArray := ⟨_, rfl⟩
  rw [← hw2] at CP1
  have G2 : Hid (w2.heap[W.heap.size]? = some (.cells ((repL x N 1).map gZ).toArray 3 (0, 0))) := by
    show _ = _
    rw [hw2]
    exact setRow_heap w1 W.heap.size _ _ 3 _ G1.out
  have B2 : Hid (Below W.heap.size W w2) := by
    show Below _ _ _
    rw [hw2]
    exact B1.out.trans ⟨rfl, rfl, rfl, by simp [World.setRow], fun k hk => setRow_otherW _ _ _ _ (by omega)⟩
  clear hw2 hw1 b1 g1 B1 G1 hx
  go_enter Tryd.func38, Tryd.ntmps38
  go_wp2_with fail
  refine MU.out.mono ?_
  rintro e w0 ⟨rfl, rfl⟩
  clear MU
  go_wp2_with fail
  clear MK CP1
  generalize hgb : w0.heap.size = gb at *
  go_loopw [8] (fun i wr => ∃ n : Nat, 1 ≤ n ∧ n ≤ N ∧ i = .int .i64 (n : Int) ∧ Hid (wr.heap[gb]? = some (.cells ((repL x N n).map gZ).toArray 3 (0, 0))) ∧ Hid (Below gb w0 wr)) (fun i _ => N - (intOf i).toNat)
  case atStart => exact ⟨1, Nat.le_refl _, hN0.out.1, rfl, G2, B2⟩
  case round =>
    obtain ⟨n, hn1, hnN, rfl, HG, HB⟩ := hrel
    by_cases hlt : n < N
    · have hki : (n : Int) < (N : Int) := by omega
      obtain ⟨k, hk⟩ : ∃ k, k = min n (N - n) := ⟨_, rfl⟩
      have hk1 : Hid (1 ≤ k ∧ n + k ≤ N ∧ k ≤ n ∧ k ≤ N - n) := by show _ ∧ _; omega
      have CP : ∀ m ty, (Builtin.copy_ #[51, 51] ty #[.slice (some ⟨gb, n, none⟩) (N - n) (N - n), .slice (some ⟨gb, 0, none⟩) n N]).run Tryd.prog (wr.drewN m) = .ok (.int .i64 (k : Int)) ((wr.drewN m).setRow gb ((repL x N (n + k)).map gZ).toArray) := by
        intro m ty
        have hh := run_copy_row (P := Tryd.prog) (wr.drewN m) 51 51 ty 3 gb n (N - n) (N - n) ⟨gb, 0, none⟩ n N ((repL x N n).map gZ).toArray 3 ((List.replicate k x).map gZ) Tryd.underlying51 infoSz HG.out (by rw [hk]; simp) (fun j v hv => by
          rw [add_at]
          have hj : j < k := by
            have := (List.getElem?_eq_some_iff.1 hv).1
            simpa using this
          have e : v = gZ x := by simpa [hj] using hv.symm
          subst e
          refine cell_blk (W := wr.drewN m) HG.out ?_
          have := hk1.out
          have h5 := rep_cell x (N := N) (n := n) (j := j) (by omega)
          simp only [List.getElem?_toArray, List.getElem?_map, h5]
          rfl) (by simp [rep_len x hnN]; have := hk1.out; omega) (by intro v hv; obtain ⟨z, -, rfl⟩ := List.mem_map.1 hv; rfl)
        have e := rep_next x N n k hk1.out.2.1
        dsimp only at hh
        rw [e] at hh
        rw [hh, List.length_map, List.length_replicate]
        rfl
      have CPd : ∀ ty, (Builtin.copy_ #[51, 51] ty #[.slice (some ⟨gb, n, none⟩) (N - n) (N - n), .slice (some ⟨gb, 0, none⟩) n N]).run Tryd.prog wr.drew = .ok (.int .i64 (k : Int)) (wr.drew.setRow gb ((repL x N (n + k)).map gZ).toArray) := fun ty => CP 1 ty
      have hb2 : (n : Int) + (k : Int) ≤ 1000 := by have := hk1.out; omega
      have hNb : (N : Int) ≤ 1000 := hhi
      have hnle : (n : Int) ≤ (N : Int) := by omega
      have hwr : IntKind.i64.wrap ((n : Int) + (k : Int)) = ((n + k : Nat) : Int) := by rw [IntKind.wrap_i64]; omega
      clear hk
      go_wp2_with fail
      go_region_held3 (fun _ => True) (exact trivial) (fail)
      obtain ⟨w3, hw3⟩ : ∃ w3, w3 = wr.drew.setRow gb ((repL x N (n + k)).map gZ).toArray := ⟨_, rfl⟩
      have G3 : Hid (w3.heap[gb]? = some (.cells ((repL x N (n + k)).map gZ).toArray 3 (0, 0))) := by
        show _ = _
        rw [hw3]
        exact setRow_heap wr.drew gb _ _ 3 _ HG.out
      have B3 : Hid (Below gb w0 w3) := by
        show Below _ _ _
        rw [hw3]
        exact (Bq HB.out 1).trans ⟨rfl, rfl, rfl, by simp [World.setRow], fun j hj => setRow_otherW _ _ _ _ (by omega)⟩
      rw [← hw3]
      clear hw3 CP CPd
      go_wp2_with fail
      go_roundw
      case rel => exact ⟨n + k, by omega, hk1.out.2.1, by go_num, G3, B3⟩
      case measure => have := hk1.out; simp [intOf]; omega
    · have hki : ¬ ((n : Int) < (N : Int)) := by omega
      obtain rfl : n = N := by omega
      go_wp2_with fail
      go_ret
      have R := HG.out
      rw [rep_full] at R
      exact ⟨rfl, by simpa using R, HB.out⟩
end Go.Proofs.YtkhhiddemihnbaaDoor.Cw
