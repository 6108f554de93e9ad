/- The parts of an entity of a query. -/
import Derived.Test.YtfabmleiibnhdaaDoorQuQe
namespace Go.Proofs.YtfabmleiibnhdaaDoor.Qu
open Go.RowKit Go.Shelf Go.Maps
open Go.Proofs.YtfabmleiibnhdaaDoor.At (St bAl cell_blk blk_seen blk_free)
open Go.Proofs.YtfabmleiibnhdaaDoor.Rs (Prt Prts PRow prts_none wpList_prt)
/-- An entity of a query: its set, the frames of its parts, whether it is named. -/
structure Bei where
  m : Nat
  t0 : Int
  t1 : Int
  t2 : Int
  t3 : Int
  t4 : Int
  t5 : Int
  t6 : Int
  t7 : Int
  nm : Bool
def Bei.tk (x : Bei) (k : Nat) : Int := match k with
  | 0 => x.t0
  | 1 => x.t1
  | 2 => x.t2
  | 3 => x.t3
  | 4 => x.t4
  | 5 => x.t5
  | 6 => x.t6
  | _ => x.t7
def Bei.arr (x : Bei) : Array Value := #[.int .u32 (x.m : Int), .int .i64 x.t0, .int .i64 x.t1, .int .i64 x.t2, .int .i64 x.t3, .int .i64 x.t4, .int .i64 x.t5, .int .i64 x.t6, .int .i64 x.t7, .bool x.nm]
def Bei.val (x : Bei) : Value := .agg #[.int .u32 (x.m : Int), .int .i64 x.t0, .int .i64 x.t1, .int .i64 x.t2, .int .i64 x.t3, .int .i64 x.t4, .int .i64 x.t5, .int .i64 x.t6, .int .i64 x.t7, .bool x.nm]
def Bei.wf (x : Bei) : Prop := x.m < 4294967296 ∧ J64 x.t0 ∧ J64 x.t1 ∧ J64 x.t2 ∧ J64 x.t3 ∧ J64 x.t4 ∧ J64 x.t5 ∧ J64 x.t6 ∧ J64 x.t7
theorem Bei.tk_wf {x : Bei} (h : x.wf) (k : Nat) : J64 (x.tk k) := by
  obtain ⟨-, h0, h1, h2, h3, h4, h5, h6, h7⟩ := h
  unfold Bei.tk
  split <;> assumption
theorem Bei.arr_tk (x : Bei) (k : Nat) (hk : k < 8) : x.arr[1 + k]? = some (.int .i64 (x.tk k)) := by
  match k, hk with
  | 0, _ => rfl
  | 1, _ => rfl
  | 2, _ => rfl
  | 3, _ => rfl
  | 4, _ => rfl
  | 5, _ => rfl
  | 6, _ => rfl
  | 7, _ => rfl
/-- The parts of the components below k. -/
def bL (x : Bei) : Nat → List Prt
  | 0 => []
  | k + 1 => if x.m.testBit k = true then bL x k ++ [⟨(k : Int), 0, 0, 0, 0, x.tk k⟩] else bL x k
theorem bL_len (x : Bei) (k : Nat) : (bL x k).length ≤ k := by
  induction k with
  | zero => simp [bL]
  | succ k ih =>
    unfold bL
    split
    · simp; omega
    · omega
theorem bL_mem (x : Bei) (p : Prt) : ∀ k, p ∈ bL x k ↔ ∃ j, j < k ∧ x.m.testBit j = true ∧ p = ⟨(j : Int), 0, 0, 0, 0, x.tk j⟩
  | 0 => by simp [bL]
  | k + 1 => by
    have ih := bL_mem x p k
    unfold bL
    constructor
    · intro h
      split at h
      · rename_i hb
        rcases List.mem_append.1 h with h | h
        · obtain ⟨j, h1, h2⟩ := ih.1 h; exact ⟨j, by omega, h2⟩
        · exact ⟨k, by omega, hb, by simpa using h⟩
      · obtain ⟨j, h1, h2⟩ := ih.1 h; exact ⟨j, by omega, h2⟩
    · rintro ⟨j, h1, h2, h3⟩
      by_cases e : j = k
      · subst e; rw [if_pos h2]; exact List.mem_append_right _ (by simp [h3])
      · have := ih.2 ⟨j, by omega, h2, h3⟩
        split
        · exact List.mem_append_left _ this
        · exact this
theorem bL_wf {x : Bei} (h : x.wf) (k : Nat) (hk : k ≤ 100) : ∀ p ∈ bL x k, J64 p.c ∧ J64 p.t := by
  intro p hp
  obtain ⟨j, h1, -, rfl⟩ := (bL_mem x p k).1 hp
  exact ⟨J64_mid (by show -1000000 ≤ (j : Int); omega) (by show (j : Int) ≤ 2147483648; omega), Bei.tk_wf h j⟩
theorem bit_int (m k : Nat) : ((((m : Int) / 2 ^ k).tmod 2 == 1) : Bool) = m.testBit k := by
  have e : ((m : Int) / 2 ^ k) = ((m / 2 ^ k : Nat) : Int) := by simp
  rw [e, Int.tmod_eq_emod_of_nonneg (Int.natCast_nonneg _)]
  rw [Nat.testBit_eq_decide_div_mod_eq]
  rw [Bool.eq_iff_iff]
  simp
  omega
set_option maxHeartbeats 1600000 in
set_option maxRecDepth 100000 in
theorem bparts_any (W : World) (x : Bei) :
    Calls Tryd.prog 11 #[x.val] W fun e W' => ∃ u, e = .returned u ∧ Prts W.heap.size W' u (bL x 8) ∧ Below W.heap.size W W' := by
  obtain ⟨w1, hw1⟩ : ∃ w1, w1 = W.alloc (.cells x.arr 48) := ⟨_, rfl⟩
  have b1 : Below W.heap.size W w1 := by rw [hw1]; exact bAl _ _
  have R1 : Hid (w1.heap[W.heap.size]? = some (.cells x.arr 48 (0, 0))) := by rw [hw1]; exact heap_alloc_new W _
  have N1 : Hid (Prts w1.heap.size (w1.alloc (.cells #[] 55)) (.slice (some ⟨w1.heap.size, 0, none⟩) 0 0) []) := prts_none w1
  have HW1 := hid hw1
  have B1 := hid b1
  clear hw1 b1
  unfold Bei.val
  unfold Bei.arr at HW1
  go_enter Tryd.func11, Tryd.ntmps11
  go_upto_region 1 with fail
  rw [← HW1.out]
  go_wp2_with fail
  go_loopg [3, 4] 8 (fun gh lv i wr => ∃ k : Nat, k ≤ 8 ∧ gh = 8 - k ∧ i = .int .i64 (k : Int) ∧ Hid (Prts w1.heap.size wr lv (bL x k)) ∧ Hid (Below w1.heap.size w1 wr))
  case atStart => exact ⟨0, Nat.zero_le _, rfl, rfl, N1.out, bAl _ _⟩
  case round =>
    obtain ⟨k, hk, rfl, rfl, HL, HB⟩ := hrel
    by_cases hlt : k < 8
    · have hki : (k : Int) < 8 := by omega
      have hk0 : (0 : Int) ≤ (k : Int) := by omega
      obtain ⟨l, hl⟩ : ∃ l, l = bL x k := ⟨_, rfl⟩
      have hul : l.length ≤ 1000 := by rw [hl]; have := bL_len x k; omega
      have hw1 : w1.heap.size ≤ wr.heap.size := HB.out.size
      rw [← hl] at HL
      obtain ⟨oa, oc, rfl⟩ := HL.out.slice
      have HT : Hid (bL x (k + 1) = if x.m.testBit k = true then l ++ [⟨(k : Int), 0, 0, 0, 0, x.tk k⟩] else l) := by rw [hl]; rfl
      have r := blk_seen HB.out (Nat.le_refl _) R1.out
      have y0 : wr.cell? ⟨W.heap.size, 0, none⟩ = some (.int .u32 (x.m : Int)) := cell_blk r rfl
      have y1 : wr.cell? ⟨W.heap.size, 1 + k, none⟩ = some (.int .i64 (x.tk k)) := cell_blk r (x.arr_tk k hlt)
      have hbt := bit_int x.m k
      clear hl r
      cases hb : x.m.testBit k with
      | false =>
        rw [hb] at hbt HT
        clear hb
        go_wp2_with fail
        go_roundg (8 - (k + 1))
        case measure => omega
        case rel => exact ⟨k + 1, by omega, rfl, by go_num, by rw [HT.out]; exact HL.out, HB.out⟩
      | true =>
        rw [hb] at hbt HT
        clear hb
        go_wp2_with (at_builtin; refine wpList_prt (p := ⟨(k : Int), 0, 0, 0, 0, x.tk k⟩) rfl _ _ rfl HL.out hul hw1 rfl rfl ?_; intro v4 w4 H4 S4)
        go_roundg (8 - (k + 1))
        case measure => omega
        case rel => exact ⟨k + 1, by omega, rfl, by go_num, by rw [HT.out]; exact H4.out, HB.out.trans (S4.out.below (B := w1.heap.size) (fun y hy => (HL.out.lt y hy).1) hw1)⟩
    · have hki : ¬ ((k : Int) < 8) := by omega
      obtain rfl : k = 8 := by omega
      have BW := hid (B1.out.trans (HB.out.mono B1.out.size))
      have LW := hid (HL.out.lower B1.out.size)
      go_wp2_with fail
      go_ret
      exact ⟨_, rfl, LW.out, BW.out⟩
end Go.Proofs.YtfabmleiibnhdaaDoor.Qu
