/- Sets: bit, With, Without, Has, Within, Of. -/
import Derived.Test.YtfabmleiibnhdaaDoorScSe
namespace Go.Proofs.YtfabmleiibnhdaaDoor.Sc
open Go.RowKit Go.Shelf
/-- The set of one number. -/
def bitI (n : Int) : Int := if 0 ≤ n ∧ n < 32 then 2 ^ n.toNat % 4294967296 else 0
set_option maxHeartbeats 800000 in
theorem bit_low (n : Int) (w : World) (h : n < 0) : Calls Tryd.prog 47 #[.int .i64 n] w fun e w' => e = .returned (.int .u32 0) ∧ w' = w := by
  go_enter Tryd.func47, Tryd.ntmps47
  go_wp2
  go_ret
  exact ⟨rfl, rfl⟩
set_option maxHeartbeats 800000 in
theorem bit_high (n : Int) (w : World) (h : 32 ≤ n) : Calls Tryd.prog 47 #[.int .i64 n] w fun e w' => e = .returned (.int .u32 0) ∧ w' = w := by
  have h0 : ¬ n < 0 := by omega
  go_enter Tryd.func47, Tryd.ntmps47
  go_wp2
  go_ret
  exact ⟨rfl, rfl⟩
set_option maxHeartbeats 800000 in
theorem bit_in (n : Nat) (w : World) (h : n < 32) : Calls Tryd.prog 47 #[.int .i64 (n : Int)] w fun e w' => e = .returned (.int .u32 (2 ^ n % 4294967296)) ∧ w' = w := by
  have h0 : ¬ (n : Int) < 0 := by omega
  have h1 : ¬ (32 : Int) ≤ n := by omega
  go_enter Tryd.func47, Tryd.ntmps47
  go_wp2
  go_ret
  exact ⟨rfl, rfl⟩
theorem bit_any (n : Int) (w : World) : Calls Tryd.prog 47 #[.int .i64 n] w fun e w' => e = .returned (.int .u32 (bitI n)) ∧ w' = w := by
  by_cases h0 : n < 0
  · rw [show bitI n = 0 from if_neg (by omega)]; exact bit_low n w h0
  · by_cases h1 : 32 ≤ n
    · rw [show bitI n = 0 from if_neg (by omega)]; exact bit_high n w h1
    · obtain ⟨k, rfl⟩ := Int.eq_ofNat_of_zero_le (show 0 ≤ n by omega)
      rw [show bitI (k : Int) = 2 ^ k % 4294967296 from (if_pos (by omega)).trans (by rw [Int.toNat_natCast])]
      exact bit_in k w (by omega)
def orI (m n : Int) : Int := bits .or .u32 m (bitI n)
set_option maxHeartbeats 800000 in
theorem with_any (m n : Int) (w : World) : Calls Tryd.prog 41 #[.int .u32 m, .int .i64 n] w fun e w' => e = .returned (.int .u32 (bits .or .u32 m (bitI n))) ∧ w' = w := by
  have BC := hid (bit_any n w)
  go_enter Tryd.func41, Tryd.ntmps41
  go_wp2_with fail
  refine BC.out.mono ?_
  rintro e w1 ⟨rfl, rfl⟩
  go_wp2_with fail
  go_ret
  exact ⟨rfl, rfl⟩
set_option maxHeartbeats 800000 in
theorem has_any5 (m n : Int) (w : World) : Calls Tryd.prog 42 #[.int .u32 m, .int .i64 n] w fun e w' => e = .returned (.bool (bits .and .u32 m (bitI n) != 0)) ∧ w' = w := by
  have BC := hid (bit_any n w)
  go_enter Tryd.func42, Tryd.ntmps42
  go_wp2_with fail
  refine BC.out.mono ?_
  rintro e w1 ⟨rfl, rfl⟩
  go_wp2_with fail
  go_ret
  exact ⟨rfl, rfl⟩
set_option maxHeartbeats 800000 in
theorem within_any (m a : Int) (w : World) : Calls Tryd.prog 19 #[.int .u32 m, .int .u32 a] w fun e w' => e = .returned (.bool (bits .andNot .u32 m a == 0)) ∧ w' = w := by
  go_enter Tryd.func19, Tryd.ntmps19
  go_wp2
  go_ret
  exact ⟨rfl, rfl⟩
def ofM (ds : List Int) : Int := ds.foldl orI 0
theorem ofM_next {ds : List Int} {k : Nat} {x : Int} (h : ds[k]? = some x) : ofM (ds.take (k + 1)) = orI (ofM (ds.take k)) x := by
  unfold ofM
  rw [take_next h, List.foldl_append]; rfl
/-- The components of a kind, as a set. -/
def kindM (cs : List Cmp) (b : Bool) : Nat → Int
  | 0 => 0
  | k + 1 => match cs[k]? with | some c => if c.rb == b then orI (kindM cs b k) (k : Int) else kindM cs b k | none => kindM cs b k
theorem kindM_next {cs : List Cmp} {k : Nat} {c : Cmp} (b : Bool) (h : cs[k]? = some c) : kindM cs b (k + 1) = if c.rb == b then orI (kindM cs b k) (k : Int) else kindM cs b k := by simp only [kindM, h]
set_option maxHeartbeats 1600000 in
set_option maxRecDepth 100000 in
theorem kind_any (W : World) (va vb : Value) (cs : List Cmp) (hC : CmpRow W va cs) (hl : cs.length ≤ 1000) (bb : Bool) :
    Calls Tryd.prog 32 #[.agg #[va, vb], .bool bb] W fun e W' => e = .returned (.int .u32 (kindM cs bb (min cs.length 32))) ∧ Below W.heap.size W W' := by
  have HC := hid hC
  obtain ⟨a, c, rfl, hcap, hlay⟩ := hC
  have HL := hid hlay
  obtain ⟨n, hn⟩ : ∃ n, n = min cs.length 32 := ⟨_, rfl⟩
  have hmin : min (cs.length : Int) 32 = (n : Int) := by rw [hn]; omega
  have hnc : (n : Int) ≤ (c : Int) := by omega
  have hn0 : (0 : Int) ≤ (n : Int) := by omega
  have hnl : n ≤ cs.length := by omega
  have hn32 : (n : Int) ≤ 32 := by omega
  have BA : Hid (Below W.heap.size W (W.alloc (.cells #[.slice a cs.length c, vb] 25))) := (Below.refl _ _).alloc (Nat.le_refl _) _
  rw [← hn]
  clear hlay hn
  go_enter Tryd.func32, Tryd.ntmps32
  go_wp2_with fail
  go_loopw [5, 6, 7, 16] (fun m _ _ i wr => ∃ k : Nat, k ≤ n ∧ i = .int .i64 (k : Int) ∧ Hid (Below W.heap.size W wr) ∧ ∃ z : Int, Hid (z = kindM cs bb k) ∧ m = .int .u32 z) (fun _ _ _ i _ => n - (intOf i).toNat)
  case atStart => exact ⟨0, Nat.zero_le _, rfl, BA.out, 0, rfl, rfl⟩
  case round =>
    obtain ⟨k, hk, rfl, HB, z, HZ, rfl⟩ := hrel
    by_cases hlt : k < n
    · have hki : (k : Int) < (n : Int) := by omega
      obtain ⟨x, hx⟩ := at_lt cs k (by omega)
      obtain ⟨b, o, rfl, hc⟩ : ∃ b o, a = some ⟨b, o, none⟩ ∧ ∀ (j : Nat) (x : Cmp), cs[j]? = some x → W.cell? ⟨b, o + j * 7, none⟩ = some (.string x.s) ∧ W.cell? ⟨b, o + j * 7 + 1, none⟩ = some (.int .i64 x.wd) ∧ W.cell? ⟨b, o + j * 7 + 2, none⟩ = some (.bool x.rb) ∧ W.cell? ⟨b, o + j * 7 + 3, none⟩ = some (.int .i64 x.d0) ∧ W.cell? ⟨b, o + j * 7 + 4, none⟩ = some (.int .i64 x.d1) ∧ W.cell? ⟨b, o + j * 7 + 5, none⟩ = some (.int .i64 x.d2) ∧ W.cell? ⟨b, o + j * 7 + 6, none⟩ = some (.int .i64 x.d3) := by
        rcases HL.out with h | h
        · rw [h] at hx; simp at hx
        · exact h
      obtain ⟨c0, c1, c2, c3, c4, c5, c6⟩ := hc k x hx
      have S := fun {p : Addr} {u : Value} (h : W.cell? p = some u) => Below.seen HB.out (Nat.le_refl _) h
      have c0 := S c0
      have c1 := S c1
      have c2 := S c2
      have c3 := S c3
      have c4 := S c4
      have c5 := S c5
      have c6 := S c6
      have KN := hid (kindM_next bb hx)
      have BX := hid (HB.out.alloc HB.out.size (.cells #[.string x.s, .int .i64 x.wd, .bool x.rb, .int .i64 x.d0, .int .i64 x.d1, .int .i64 x.d2, .int .i64 x.d3] 67))
      have WC := hid (fun W' => with_any z (k : Int) W')
      clear S hc hx
      by_cases hq : x.rb = bb
      · have q : (x.rb == bb) = true := by simp [hq]
        have R : Hid (bits .or .u32 z (bitI (k : Int)) = kindM cs bb (k + 1)) := by show _ = _; rw [KN.out, if_pos q, ← HZ.out]; rfl
        clear hq
        go_wp2_with fail
        refine (WC.out _).mono ?_
        rintro e w1 ⟨rfl, rfl⟩
        clear WC
        go_wp2_with fail
        go_roundw
        case rel => exact ⟨k + 1, by omega, by go_num, BX.out, _, R.out, rfl⟩
        case measure => simp [intOf]; omega
      · have q : (x.rb == bb) = false := by simp [hq]
        have R : Hid (z = kindM cs bb (k + 1)) := by show _ = _; rw [KN.out, if_neg (by rw [q]; decide), ← HZ.out]
        clear hq WC
        go_wp2_with fail
        go_roundw
        case rel => exact ⟨k + 1, by omega, by go_num, BX.out, _, R.out, rfl⟩
        case measure => simp [intOf]; omega
    · have hki : ¬ ((k : Int) < (n : Int)) := by omega
      have R : Hid (z = kindM cs bb n) := by show _ = _; rw [HZ.out, show k = n by omega]
      go_wp2_with fail
      go_ret
      exact ⟨by rw [R.out]; rfl, HB.out⟩
set_option maxHeartbeats 800000 in
theorem rollback_any (W : World) (va vb : Value) (hvb : ∃ a l c, vb = .slice a l c) (cs : List Cmp) (hC : CmpRow W va cs) (hl : cs.length ≤ 1000) :
    Calls Tryd.prog 16 #[.agg #[va, vb]] W fun e W' => e = .returned (.int .u32 (kindM cs true (min cs.length 32))) ∧ Below W.heap.size W W' := by
  have BA : Hid (Below W.heap.size W (W.alloc (.cells #[va, vb] 25))) := (Below.refl _ _).alloc (Nat.le_refl _) _
  have KC := hid (kind_any (W.alloc (.cells #[va, vb] 25)) va vb cs (hC.later BA.out) hl true)
  obtain ⟨a, c, rfl, -, -⟩ := hC
  obtain ⟨a', l', c', rfl⟩ := hvb
  go_enter Tryd.func16, Tryd.ntmps16
  go_wp2_with fail
  refine KC.out.mono ?_
  rintro e w1 ⟨rfl, hb1⟩
  have B1 := hid (BA.out.trans (hb1.mono BA.out.size))
  clear hb1 KC
  go_wp2_with fail
  go_ret
  exact ⟨rfl, B1.out⟩
end Go.Proofs.YtfabmleiibnhdaaDoor.Sc
