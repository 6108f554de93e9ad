/- awake: the document's examples. -/
import Derived.Test.YtfabmleiibnhdaaDoorQuQg
import Derived.Test.YtfabmleiibnhdaaDoorKj
namespace Go.Proofs.YtfabmleiibnhdaaDoor.Qu
open Go.RowKit Go.Shelf Go.Maps
open Go.Proofs.YtfabmleiibnhdaaDoor.At (St bAl cell_blk blk_seen blk_free an wi)
open Go.Proofs.YtfabmleiibnhdaaDoor.Sc (Cmp CmpRow)
open Go.Proofs.YtfabmleiibnhdaaDoor.Rs (Prt PRow Six six_blk)
theorem join_one (s : ByteArray) : joinB [s] = s := by simp [joinB, Lib.join]
theorem four_flaws : qcheckL 127 128 128 2 = [([bWith], 1), ([bWithout], 1), ([bWithout], 9), ([bChanged], 7)] := by decide +kernel
theorem no_flaws : qcheckL 127 1 0 1 = [] := by decide +kernel
theorem eqW (w : World) : (binOp .eql 41 (.agg #[.string ⟨#[119, 105, 116, 104]⟩, .int .i64 1]) (.agg #[.string ⟨#[119, 105, 116, 104]⟩, .int .i64 1])).run Tryd.prog w = .ok (.bool true) w := by kernel_rfl
theorem eqC (w : World) : (binOp .eql 41 (.agg #[.string ⟨#[99, 104, 97, 110, 103, 101, 100]⟩, .int .i64 7]) (.agg #[.string ⟨#[99, 104, 97, 110, 103, 101, 100]⟩, .int .i64 7])).run Tryd.prog w = .ok (.bool true) w := by kernel_rfl
theorem one_means (x : Int) : meansB 1 0 1 9 [⟨0, 0, 0, 0, 0, x⟩] = decide (8 ≤ x) := by
  have e1 : At.lst 32 1 = [0] := by decide +kernel
  have e0 : At.lst 32 0 = [] := by decide +kernel
  unfold meansB evB
  rw [e1, e0]
  simp [hasP, lateP, snc]
  rfl
theorem mean_at {w3 W : World} (k : Nat) (x : Int) (hr : W.heap[k]? = some (.cells #[.int .i64 0, .int .i64 0, .int .i64 0, .int .i64 0, .int .i64 0, .int .i64 x] 55 (0, 0))) (hx : J64 x) (hb : Below w3.heap.size w3 W) :
    Calls Tryd.prog 9 #[.agg #[.int .u32 1, .int .u32 0, .int .u32 1], .int .i64 9, .slice (some ⟨k, 0, none⟩) 1 1] W fun e w' => e = .returned (.bool (decide (8 ≤ x))) ∧ Below w3.heap.size w3 w' := by
  have r1 : W.heap[k]? = some (.cells (Prt.arr ⟨0, 0, 0, 0, 0, x⟩) 55 (0, 0)) := hr
  have T := means_any (W := W) (v := .slice (some ⟨k, 0, none⟩) 1 1) (ps := [⟨0, 0, 0, 0, 0, x⟩]) 1 0 1 (by decide) (by decide) (by decide) 9 (J64_mid (by decide) (by decide)) ⟨_, _, rfl, .inr ⟨k, 0, rfl, fun j p hj => by
      match j, hj with
      | 0, hj =>
        obtain rfl : (⟨0, 0, 0, 0, 0, x⟩ : Prt) = p := by simpa using hj
        exact six_blk r1
      | j + 1, hj => simp at hj⟩⟩ (by simp) (fun p hp => by
      obtain rfl : p = ⟨0, 0, 0, 0, 0, x⟩ := by simpa using hp
      exact ⟨show J64 0 from J64_mid (by decide) (by decide), hx⟩)
  rw [one_means] at T
  refine T.mono ?_
  rintro e w' ⟨rfl, h⟩
  exact ⟨rfl, hb.trans (h.mono hb.size)⟩
theorem new_drew (wc : World) (cs : Array Value) (e : TypeId) : (wc.alloc (.cells cs e)).drew.heap[wc.heap.size]? = some (.cells cs e (0, 0)) := heap_alloc_new wc _
theorem bel_al {w3 wc : World} (h : Below w3.heap.size w3 wc) (o : Obj) : Below w3.heap.size w3 (wc.alloc o) := h.alloc h.size o
theorem chk_eight (Ad : Nat → Addr) {w3 wc : World} {va : Value} (hE : Env w3 Ad) (hC : CmpRow wc va (eightL 8)) (hb : Below w3.heap.size w3 wc) (a b c : Nat) (ha : a < 4294967296) (hb' : b < 4294967296) (hc : c < 4294967296) :
    Calls Tryd.prog 7 #[.agg #[va, .slice none 0 0], .agg #[.int .u32 (a : Int), .int .u32 (b : Int), .int .u32 (c : Int)]] wc fun e w' => ∃ v', e = .returned v' ∧ Top Ad w'.heap.size w' 1 v' (qcheckL 127 a b c) ∧ Below w3.heap.size w3 w' := by
  have T := qcheck_any Ad wc va (.slice none 0 0) ⟨_, _, _, rfl⟩ (eightL 8) (hE.later hb) hC (by simp [eightL]) a b c ha hb' hc
  rw [eight_rol] at T
  refine T.mono ?_
  rintro e w' ⟨v', rfl, t, h⟩
  exact ⟨v', rfl, t, hb.trans (h.mono hb.size)⟩
theorem top_empty {Ad : Nat → Addr} {n d : Nat} {W : World} {v : Value} (h : Top Ad n W d v []) : v = .nilIface := by
  rcases h with ⟨rfl, -⟩ | ⟨p, h, -⟩ | ⟨b, vs, -, h, hS⟩
  · rfl
  · simp at h
  · obtain rfl : vs = [] := by simpa using h.symm
    obtain ⟨g, c, q⟩ := hS
    simp at c
set_option maxHeartbeats 6400000 in
set_option maxRecDepth 100000 in
theorem awake_any (Ad : Nat → Addr) (w : World) (hE : Env w Ad) :
    Calls Tryd.prog 5 #[] w fun e w' => e = .returned (.bool true) ∧ Below w.heap.size w w' := by
  obtain ⟨w1, hw1⟩ : ∃ w1, w1 = w.alloc (.cells #[.int .u32 1, .int .u32 0, .int .u32 1] 29) := ⟨_, rfl⟩
  have b1 : Below w.heap.size w w1 := by rw [hw1]; exact bAl _ _
  have R1 : Hid (w1.heap[w.heap.size]? = some (.cells #[.int .u32 1, .int .u32 0, .int .u32 1] 29 (0, 0))) := by rw [hw1]; exact heap_alloc_new w _
  have HW1 := hid hw1
  have B1 := hid b1
  have E1 := hid (hE.later b1)
  have EI := hid (eight_any w1)
  clear hw1 b1 hE
  go_enter Tryd.func5, Tryd.ntmps5
  go_upto_region 2 with fail
  rw [← HW1.out]
  go_wp2_with fail
  refine EI.out.mono ?_
  rintro e w2 ⟨va, rfl, hc2, b2⟩
  have B2 := hid b2
  have CC := hid (chk_eight Ad E1.out hc2 b2 128 128 2 (by decide) (by decide) (by decide))
  rw [four_flaws] at CC
  obtain ⟨xa, xc, rfl, -, -⟩ := hc2
  clear EI b2
  go_wp2_with fail
  refine CC.out.mono ?_
  rintro e w3 ⟨v3, rfl, t3, b3⟩
  have B3 := hid b3
  have E3 := hid (E1.out.later b3)
  have LC := hid (leaves_any Ad v3 _ 1 w3 E3.out t3.tr (by omega) (by intro p hp; simp at hp; rcases hp with rfl | rfl | rfl | rfl <;> exact ⟨by rw [join_one]; decide, by simp⟩) (by simp))
  have TS : ∃ t q, v3 = .iface t q := by
    rcases t3 with ⟨-, h⟩ | ⟨p, h, -⟩ | ⟨b, vs, h, -, -⟩
    · simp at h
    · simp at h
    · exact ⟨_, _, h⟩
  obtain ⟨t, q, rfl⟩ := TS
  clear t3 b3 CC
  go_wp2_with fail
  refine LC.out.mono ?_
  rintro e w4 ⟨lv, rfl, ho4, b4⟩
  have B4 := hid (B3.out.trans (b4.mono B3.out.size))
  have BW4 := hid (B1.out.trans (B4.out.mono B1.out.size))
  have E4 := hid (E3.out.later b4)
  obtain ⟨g, cap, rfl, hg1, hg2⟩ := World.ownsRow.form ho4 (by simp)
  have KK : Hid (∀ W', Below w4.heap.size w4 W' → W'.cell? ⟨w.heap.size, 0, none⟩ = some (.int .u32 1) ∧ W'.cell? ⟨w.heap.size, 1, none⟩ = some (.int .u32 0) ∧ W'.cell? ⟨w.heap.size, 2, none⟩ = some (.int .u32 1) ∧ W'.cell? ⟨g, 0, none⟩ = some (.string ⟨#[119, 105, 116, 104]⟩) ∧ W'.cell? ⟨g, 1, none⟩ = some (.int .i64 1) ∧ W'.cell? ⟨g, 6, none⟩ = some (.string ⟨#[99, 104, 97, 110, 103, 101, 100]⟩) ∧ W'.cell? ⟨g, 7, none⟩ = some (.int .i64 7)) := by
    intro W' hb
    have q := blk_seen (B4.out.trans (hb.mono B4.out.size)) (Nat.le_refl _) R1.out
    have S := fun (j : Nat) (hj : j < 8) => (hb.cell (p := ⟨g, j, none⟩) hg2).trans (ho4.cellAt j (by simpa using hj))
    refine ⟨cell_blk q rfl, cell_blk q rfl, cell_blk q rfl, (S 0 (by decide)).trans ?_, (S 1 (by decide)).trans ?_, (S 6 (by decide)).trans ?_, (S 7 (by decide)).trans ?_⟩
    · simp [leafCells, join_one]; rfl
    · simp [leafCells]
    · simp [leafCells, join_one]; rfl
    · simp [leafCells]
  have e1 := eqW
  have e2 := eqC
  have hd0 := Below.refl w4.heap.size w4
  have hd1 : Below w4.heap.size w4 w4.drew := (Below.refl _ _).drew
  have j8 : J64 8 := J64_mid (by decide) (by decide)
  have j7 : J64 7 := J64_mid (by decide) (by decide)
  obtain ⟨c0, c1, c2, c3, c4, c5, c6⟩ := KK.out w4 hd0
  clear ho4 b4 LC hg1 hg2 HW1 R1 B3 E3 B2 B1 E1 B4
  obtain ⟨fb, hfb⟩ : ∃ fb, fb = w.heap.size := ⟨_, rfl⟩
  rw [← hfb] at KK c0 c1 c2
  go_upto_region 3 with fail
  rw [← hfb]
  clear hfb
  go_region_held3 (fun W' => W'.cell? ⟨fb, 0, none⟩ = some (.int .u32 1) ∧ W'.cell? ⟨fb, 1, none⟩ = some (.int .u32 0) ∧ W'.cell? ⟨fb, 2, none⟩ = some (.int .u32 1) ∧ W'.cell? ⟨g, 0, none⟩ = some (.string ⟨#[119, 105, 116, 104]⟩) ∧ W'.cell? ⟨g, 1, none⟩ = some (.int .i64 1) ∧ W'.cell? ⟨g, 6, none⟩ = some (.string ⟨#[99, 104, 97, 110, 103, 101, 100]⟩) ∧ W'.cell? ⟨g, 7, none⟩ = some (.int .i64 7))
    (first | (exact KK.out _ (by assumption)) | go_keep)
    (first
      | (go_at_call 9; refine (mean_at _ _ (by first | exact heap_alloc_new _ _ | exact new_drew _ _ _) (by first | exact j8 | exact j7) (by first | exact bel_al (by assumption) _ | exact (bel_al (by assumption) _).drew)).mono ?_; rintro e w5 ⟨rfl, hd5⟩)
      | (go_at_call 12; refine (eight_any _).mono ?_; rintro e w6 ⟨va6, rfl, hc6, hb6⟩; have hd6 := Below.trans (by assumption : Below w4.heap.size w4 _) (hb6.mono (Below.size (by assumption : Below w4.heap.size w4 _))))
      | (go_at_call 7; refine (chk_eight Ad E4.out (by assumption) (by assumption) 1 0 1 (by decide) (by decide) (by decide)).mono ?_; rintro e w7 ⟨v7, rfl, t7, hd7⟩; rw [no_flaws] at t7; obtain rfl := top_empty t7))
  have BF := hid (BW4.out.trans (hd7.mono BW4.out.size))
  clear KK hd7 hd0 hd1 e1 e2
  go_wp2_with fail
  go_ret
  exact ⟨rfl, BF.out⟩
end Go.Proofs.YtfabmleiibnhdaaDoor.Qu
