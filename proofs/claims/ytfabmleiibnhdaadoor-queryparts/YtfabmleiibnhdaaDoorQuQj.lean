/- QueryParts: the walk. -/
import Derived.Test.YtfabmleiibnhdaaDoorQuQh
import Derived.Test.YtfabmleiibnhdaaDoorQuQi
import Derived.Test.YtfabmleiibnhdaaDoorQuQp
import Derived.Deep.RegionWith
namespace Go.Proofs.YtfabmleiibnhdaaDoor.Qu
open Go.RowKit Go.Shelf Go.Maps
open Go.Proofs.YtfabmleiibnhdaaDoor.At (St bAl cell_blk blk_seen blk_free an wi an_le bits_an32 bits_or32 pow32)
open Go.Proofs.YtfabmleiibnhdaaDoor.Rs (Prt Prts PRow)
theorem u64_nat (m : Int) : ∃ q : Nat, IntKind.u64.wrap m = (q : Int) := by
  have h : 0 ≤ IntKind.u64.wrap m := by
    show 0 ≤ m % _
    exact Int.emod_nonneg _ (by decide)
  exact Int.eq_ofNat_of_zero_le h
theorem rem_at (m : Int) (n : Nat) (h0 : 0 < n) : ∃ (u : Int) (k : Nat), k < n ∧ IntKind.u64.wrap m = u ∧ u.tmod (n : Int) = (k : Int) := by
  obtain ⟨q, hq⟩ := u64_nat m
  exact ⟨_, q % n, Nat.mod_lt _ h0, hq, by rw [← Int.ofNat_tmod]⟩
theorem pow_u32 (j : Nat) (hj : j < 32) : (2 : Int) ^ j % 4294967296 = ((2 ^ j : Nat) : Int) := by
  have := At.bitI_in j hj
  unfold At.bitI at this
  rw [if_pos (by omega), Int.toNat_natCast] at this
  exact this
/-- A block of three cells whose cells are set anew. -/
theorem set3 {W : World} {b : Nat} {u0 u1 u2 v0 v1 v2 : Value} {e : TypeId} (h : W.heap[b]? = some (.cells #[u0, u1, u2] e (0, 0))) :
    (((W.setCell ⟨b, 0, none⟩ v0).setCell ⟨b, 1, none⟩ v1).setCell ⟨b, 2, none⟩ v2).heap[b]? = some (.cells #[v0, v1, v2] e (0, 0)) ∧ St (fun k => k = b) W (((W.setCell ⟨b, 0, none⟩ v0).setCell ⟨b, 1, none⟩ v1).setCell ⟨b, 2, none⟩ v2) := by
  have h1 := heap_setCell_same W b 0 _ _ v0 h
  have h2 := heap_setCell_same _ b 1 _ _ v1 h1
  have h3 := heap_setCell_same _ b 2 _ _ v2 h2
  have c := fun (w : World) (j : Nat) (v : Value) => St.setCell (S := fun k => k = b) (a := w) (p := ⟨b, j, none⟩) v rfl
  exact ⟨by simpa using h3, ((c W 0 v0).trans (c _ 1 v1) fun _ _ q => q).trans (c _ 2 v2) fun _ _ q => q⟩
set_option maxHeartbeats 6400000 in
set_option maxRecDepth 100000 in
theorem parts_law (w : World) (Ad : Nat → Addr) (hE : Env w Ad) (x : Bei) (hx : x.wf) (a b c : Nat) (ha : a < 4294967296) (hb : b < 4294967296) (hc : c < 4294967296) (comp fr : Int) (hfr : J64 fr) :
    Calls Tryd.prog 4 #[x.val, .agg #[.int .u32 (a : Int), .int .u32 (b : Int), .int .u32 (c : Int)], .int .i64 comp, .int .i64 fr] w fun e w' => e = .returned (.bool true) ∧ Below w.heap.size w w' := by
  obtain ⟨w1, hw1⟩ : ∃ w1, w1 = (w.alloc (.cells x.arr 48)).alloc (.cells #[.int .u32 (a : Int), .int .u32 (b : Int), .int .u32 (c : Int)] 29) := ⟨_, rfl⟩
  obtain ⟨b1, r1, p1⟩ := two_blk w x.arr #[.int .u32 (a : Int), .int .u32 (b : Int), .int .u32 (c : Int)] 48 29
  rw [← hw1] at b1 r1 p1
  obtain ⟨u, j, hj, hu1, hu2⟩ := rem_at comp 8 (by decide)
  have HW1 := hid hw1
  have B1 := hid b1
  have R1 := hid r1
  have P1 := hid p1
  have AW := hid (awake_any Ad w1 (hE.later b1))
  have hu2 : u.tmod 8 = (j : Int) := hu2
  clear hw1 b1 r1 p1 hE
  unfold Bei.val
  unfold Bei.arr at HW1
  go_enter Tryd.func4, Tryd.ntmps4
  go_upto_region 1 with fail
  rw [← HW1.out]
  go_wp2_with fail
  refine AW.out.mono ?_
  rintro e w2 ⟨rfl, b2⟩
  have R2 := hid (blk_seen b2 (Nat.le_refl _) R1.out)
  have P2 := hid (blk_seen b2 (Nat.le_refl _) P1.out)
  have B2 := hid (B1.out.trans (b2.mono B1.out.size))
  have y0 : w2.cell? ⟨w.heap.size + 1, 0, none⟩ = some (.int .u32 (a : Int)) := cell_blk P2.out rfl
  have y1 : w2.cell? ⟨w.heap.size + 1, 1, none⟩ = some (.int .u32 (b : Int)) := cell_blk P2.out rfl
  have y2 : w2.cell? ⟨w.heap.size + 1, 2, none⟩ = some (.int .u32 (c : Int)) := cell_blk P2.out rfl
  have f0 := blk_free P2.out 0
  have f1 := blk_free P2.out 1
  have f2 := blk_free P2.out 2
  clear AW b2 R1 P1
  go_upto_region 4 with fail
  rw [pow_u32 j (by omega)]
  have hq : (2 ^ j : Nat) < 4294967296 := pow32 (by omega)
  obtain ⟨q, HQ⟩ : ∃ q, Hid (q = 2 ^ j) := ⟨_, hid rfl⟩
  rw [← HQ.out] at hq ⊢
  have n1 := bits_an32 a q ha hq
  have n2 := bits_an32 b q hb hq
  have n3 := bits_an32 c q hc hq
  have o1 := bits_or32 (an a q) q (Nat.lt_of_le_of_lt (an_le _ _) ha) hq
  have o2 := bits_or32 (an b q) q (Nat.lt_of_le_of_lt (an_le _ _) hb) hq
  go_upto_region 7 with fail
  obtain ⟨w5, hw5⟩ : ∃ w5, w5 = ((w2.setCell ⟨w.heap.size + 1, 0, none⟩ (.int .u32 ((an a q : Nat) : Int))).setCell ⟨w.heap.size + 1, 1, none⟩ (.int .u32 ((an b q : Nat) : Int))).setCell ⟨w.heap.size + 1, 2, none⟩ (.int .u32 ((an c q : Nat) : Int)) := ⟨_, rfl⟩
  obtain ⟨p5, s5⟩ := set3 (v0 := .int .u32 ((an a q : Nat) : Int)) (v1 := .int .u32 ((an b q : Nat) : Int)) (v2 := .int .u32 ((an c q : Nat) : Int)) P2.out
  rw [← hw5] at p5 s5 ⊢
  have r5 := s5.at R2.out (by omega)
  have b5 := B2.out.trans (s5.below (B := w.heap.size) (fun k hk => by omega) B2.out.size)
  have HA : Hid (an a q < 4294967296) := Nat.lt_of_le_of_lt (an_le _ _) ha
  have HB : Hid (an b q < 4294967296) := Nat.lt_of_le_of_lt (an_le _ _) hb
  have HC : Hid (an c q < 4294967296) := Nat.lt_of_le_of_lt (an_le _ _) hc
  clear hw5 s5 y0 y1 y2 f0 f1 f2 n1 n2 n3 R2 P2 B2 ha hb hc
  generalize an a q = A at *
  generalize an b q = B at *
  generalize an c q = C at *
  have y0 : w5.cell? ⟨w.heap.size + 1, 0, none⟩ = some (.int .u32 (A : Int)) := cell_blk p5 rfl
  have y1 : w5.cell? ⟨w.heap.size + 1, 1, none⟩ = some (.int .u32 (B : Int)) := cell_blk p5 rfl
  have y2 : w5.cell? ⟨w.heap.size + 1, 2, none⟩ = some (.int .u32 (C : Int)) := cell_blk p5 rfl
  have R5 := hid r5
  have P5 := hid p5
  have B5 := hid b5
  clear r5 p5 b5
  go_upto_region 9 with fail
  obtain ⟨w6, hw6⟩ : ∃ w6, w6 = w5.alloc (.cells #[.int .u32 ((A ||| q : Nat) : Int), .int .u32 (B : Int), .int .u32 (C : Int)] 29) := ⟨_, rfl⟩
  have b6 : Below w5.heap.size w5 w6 := by rw [hw6]; exact bAl _ _
  have p6 : w6.heap[w5.heap.size]? = some (.cells #[.int .u32 ((A ||| q : Nat) : Int), .int .u32 (B : Int), .int .u32 (C : Int)] 29 (0, 0)) := by rw [hw6]; exact heap_alloc_new w5 _
  rw [← hw6]
  have q6 := blk_seen b6 (Nat.le_refl _) P5.out
  have y0 : w6.cell? ⟨w.heap.size + 1, 0, none⟩ = some (.int .u32 (A : Int)) := cell_blk q6 rfl
  have y1 : w6.cell? ⟨w.heap.size + 1, 1, none⟩ = some (.int .u32 (B : Int)) := cell_blk q6 rfl
  have y2 : w6.cell? ⟨w.heap.size + 1, 2, none⟩ = some (.int .u32 (C : Int)) := cell_blk q6 rfl
  have B6 := hid b6
  have P6 := hid p6
  clear hw6 b6 p6 q6 o1
  go_upto_region 11 with fail
  obtain ⟨w7, hw7⟩ : ∃ w7, w7 = w6.alloc (.cells #[.int .u32 (A : Int), .int .u32 ((B ||| q : Nat) : Int), .int .u32 (C : Int)] 29) := ⟨_, rfl⟩
  have b7 : Below w6.heap.size w6 w7 := by rw [hw7]; exact bAl _ _
  have p7 : w7.heap[w6.heap.size]? = some (.cells #[.int .u32 (A : Int), .int .u32 ((B ||| q : Nat) : Int), .int .u32 (C : Int)] 29 (0, 0)) := by rw [hw7]; exact heap_alloc_new w6 _
  rw [← hw7]
  have b57 := B6.out.trans (b7.mono B6.out.size)
  have xr := blk_seen b57 (Nat.le_refl _) R5.out
  have FA := hid (blk_seen b57 (Nat.le_refl _) P5.out)
  have FB := hid (blk_seen b7 (Nat.le_refl _) P6.out)
  have FC := hid p7
  have B7 := hid (B5.out.trans (b57.mono B5.out.size))
  have x0 : w7.cell? ⟨w.heap.size, 0, none⟩ = some (.int .u32 (x.m : Int)) := cell_blk xr rfl
  have x1 : w7.cell? ⟨w.heap.size, 1, none⟩ = some (.int .i64 x.t0) := cell_blk xr rfl
  have x2 : w7.cell? ⟨w.heap.size, 2, none⟩ = some (.int .i64 x.t1) := cell_blk xr rfl
  have x3 : w7.cell? ⟨w.heap.size, 3, none⟩ = some (.int .i64 x.t2) := cell_blk xr rfl
  have x4 : w7.cell? ⟨w.heap.size, 4, none⟩ = some (.int .i64 x.t3) := cell_blk xr rfl
  have x5 : w7.cell? ⟨w.heap.size, 5, none⟩ = some (.int .i64 x.t4) := cell_blk xr rfl
  have x6 : w7.cell? ⟨w.heap.size, 6, none⟩ = some (.int .i64 x.t5) := cell_blk xr rfl
  have x7 : w7.cell? ⟨w.heap.size, 7, none⟩ = some (.int .i64 x.t6) := cell_blk xr rfl
  have x8 : w7.cell? ⟨w.heap.size, 8, none⟩ = some (.int .i64 x.t7) := cell_blk xr rfl
  have x9 : w7.cell? ⟨w.heap.size, 9, none⟩ = some (.bool x.nm) := cell_blk xr rfl
  have PT := hid (bparts_any w7 x)
  unfold Bei.val at PT
  clear hw7 b7 p7 b57 xr y0 y1 y2 o2 P5 P6 R5 B6 B5
  generalize w5.heap.size = ab at *
  generalize w6.heap.size = bb at *
  go_wp2_with fail
  refine PT.out.mono ?_
  rintro e w8 ⟨pv, rfl, hp8, b8⟩
  have PR := hid hp8.row
  obtain ⟨pa, pc, rfl⟩ := hp8.slice
  have JW : Hid (∀ p ∈ bL x 8, J64 p.c ∧ J64 p.t) := bL_wf hx 8 (by decide)
  have hl8 : (bL x 8).length ≤ 1000 := by have := bL_len x 8; omega
  have HFR := hid hfr
  obtain ⟨L, hL⟩ : ∃ L, L = bL x 8 := ⟨_, rfl⟩
  rw [← hL] at PR JW hl8 ⊢
  have KK : Hid (∀ W', Below w8.heap.size w8 W' → W'.cell? ⟨w.heap.size + 1, 0, none⟩ = some (.int .u32 (A : Int)) ∧ W'.cell? ⟨w.heap.size + 1, 1, none⟩ = some (.int .u32 (B : Int)) ∧ W'.cell? ⟨w.heap.size + 1, 2, none⟩ = some (.int .u32 (C : Int)) ∧ W'.cell? ⟨ab, 0, none⟩ = some (.int .u32 ((A ||| q : Nat) : Int)) ∧ W'.cell? ⟨ab, 1, none⟩ = some (.int .u32 (B : Int)) ∧ W'.cell? ⟨ab, 2, none⟩ = some (.int .u32 (C : Int)) ∧ W'.cell? ⟨bb, 0, none⟩ = some (.int .u32 (A : Int)) ∧ W'.cell? ⟨bb, 1, none⟩ = some (.int .u32 ((B ||| q : Nat) : Int)) ∧ W'.cell? ⟨bb, 2, none⟩ = some (.int .u32 (C : Int))) := fun W' hb => by
    have c := b8.trans (hb.mono b8.size)
    have r1 := blk_seen c (Nat.le_refl _) FA.out
    have r2 := blk_seen c (Nat.le_refl _) FB.out
    have r3 := blk_seen c (Nat.le_refl _) FC.out
    exact ⟨cell_blk r1 rfl, cell_blk r1 rfl, cell_blk r1 rfl, cell_blk r2 rfl, cell_blk r2 rfl, cell_blk r2 rfl, cell_blk r3 rfl, cell_blk r3 rfl, cell_blk r3 rfl⟩
  have B8 := hid (B7.out.trans (b8.mono B7.out.size))
  have hAq : A ||| q < 4294967296 := Nat.or_lt_two_pow (n := 32) HA.out hq
  have hBq : B ||| q < 4294967296 := Nat.or_lt_two_pow (n := 32) HB.out hq
  have M1 : Hid (∀ W', Below w8.heap.size w8 W' → Calls Tryd.prog 9 #[.agg #[.int .u32 (A : Int), .int .u32 (B : Int), .int .u32 (C : Int)], .int .i64 fr, .slice pa L.length pc] W' fun e w' => e = .returned (.bool (meansB A B C fr L)) ∧ Below w8.heap.size w8 w') := fun W' hb => (means_any A B C HA.out HB.out HC.out fr HFR.out (PR.out.later hb) hl8 JW.out).mono fun _ _ ⟨q1, q2⟩ => ⟨q1, hb.trans (q2.mono hb.size)⟩
  have M2 : Hid (∀ W', Below w8.heap.size w8 W' → Calls Tryd.prog 9 #[.agg #[.int .u32 ((A ||| q : Nat) : Int), .int .u32 (B : Int), .int .u32 (C : Int)], .int .i64 fr, .slice pa L.length pc] W' fun e w' => e = .returned (.bool (meansB (A ||| q) B C fr L)) ∧ Below w8.heap.size w8 w') := fun W' hb => (means_any (A ||| q) B C hAq HB.out HC.out fr HFR.out (PR.out.later hb) hl8 JW.out).mono fun _ _ ⟨q1, q2⟩ => ⟨q1, hb.trans (q2.mono hb.size)⟩
  have M3 : Hid (∀ W', Below w8.heap.size w8 W' → Calls Tryd.prog 9 #[.agg #[.int .u32 (A : Int), .int .u32 ((B ||| q : Nat) : Int), .int .u32 (C : Int)], .int .i64 fr, .slice pa L.length pc] W' fun e w' => e = .returned (.bool (meansB A (B ||| q) C fr L)) ∧ Below w8.heap.size w8 w') := fun W' hb => (means_any A (B ||| q) C HA.out hBq HC.out fr HFR.out (PR.out.later hb) hl8 JW.out).mono fun _ _ ⟨q1, q2⟩ => ⟨q1, hb.trans (q2.mono hb.size)⟩
  have TW := part_two (a := A) (b := B) (c := C) (fr := fr) (l := L) (j := j) (by omega)
  unfold wi at TW
  rw [← HQ.out] at TW
  have hd0 := Below.refl w8.heap.size w8
  have hd1 : Below w8.heap.size w8 w8.drew := (Below.refl _ _).drew
  clear hp8 b8 PT x0 x1 x2 x3 x4 x5 x6 x7 x8 x9 FA FB FC hL hAq hBq hfr PR JW B7
  generalize A ||| q = Aq at *
  generalize B ||| q = Bq at *
  generalize meansB A B C fr L = z1 at *
  generalize meansB Aq B C fr L = z2 at *
  generalize meansB A Bq C fr L = z3 at *
  obtain ⟨fb, hfb⟩ : ∃ fb, fb = w.heap.size + 1 := ⟨_, rfl⟩
  rw [← hfb] at KK
  obtain ⟨c0, c1, c2, c3, c4, c5, c6, c7, c8⟩ := KK.out w8 hd0
  go_upto_region 12 with fail
  rw [← hfb]
  clear hfb
  cases z2 with
  | false =>
    have e1 : z1 = z3 := by simpa using TW.1
    subst e1
    clear TW
    go_region_held3 (fun W' => W'.cell? ⟨fb, 0, none⟩ = some (.int .u32 (A : Int)) ∧ W'.cell? ⟨fb, 1, none⟩ = some (.int .u32 (B : Int)) ∧ W'.cell? ⟨fb, 2, none⟩ = some (.int .u32 (C : Int)) ∧ W'.cell? ⟨ab, 0, none⟩ = some (.int .u32 (Aq : Int)) ∧ W'.cell? ⟨ab, 1, none⟩ = some (.int .u32 (B : Int)) ∧ W'.cell? ⟨ab, 2, none⟩ = some (.int .u32 (C : Int)) ∧ W'.cell? ⟨bb, 0, none⟩ = some (.int .u32 (A : Int)) ∧ W'.cell? ⟨bb, 1, none⟩ = some (.int .u32 (Bq : Int)) ∧ W'.cell? ⟨bb, 2, none⟩ = some (.int .u32 (C : Int)))
      (exact KK.out _ (by assumption))
      (first
        | (go_at_call_of 9 (Value.agg #[Value.int IntKind.u32 (A : Int), Value.int IntKind.u32 (B : Int), Value.int IntKind.u32 (C : Int)]); refine (M1.out _ (by assumption)).mono ?_; rintro e w9 ⟨rfl, hd9⟩)
        | (go_at_call_of 9 (Value.agg #[Value.int IntKind.u32 (Aq : Int), Value.int IntKind.u32 (B : Int), Value.int IntKind.u32 (C : Int)]); refine (M2.out _ (by assumption)).mono ?_; rintro e w10 ⟨rfl, hd10⟩)
        | (go_at_call_of 9 (Value.agg #[Value.int IntKind.u32 (A : Int), Value.int IntKind.u32 (Bq : Int), Value.int IntKind.u32 (C : Int)]); refine (M3.out _ (by assumption)).mono ?_; rintro e w11 ⟨rfl, hd11⟩))
    obtain ⟨-, -, -, k3, k4, k5, -, -, -⟩ := KK.out w11 hd11
    have MA := hid (M2.out w11 hd11)
    clear M1 M2 M3 c0 c1 c2 c3 c4 c5 c6 c7 c8 hd0 hd1 KK
    go_wp2_with fail
    refine MA.out.mono ?_
    rintro e w12 ⟨rfl, hd12⟩
    have BF := hid (B8.out.trans (hd12.mono B8.out.size))
    clear MA hd12 k3 k4 k5
    go_wp2_with fail
    go_ret
    exact ⟨rfl, BF.out⟩
  | true =>
    obtain rfl : z3 = false := by simpa using TW.2
    obtain rfl : z1 = true := by simpa using TW.1
    clear TW
    go_cut [62] (fun s62 wx => s62 = .bool false ∧ Hid (Below w8.heap.size w8 wx))
    case first =>
      first
        | (go_region_with (first | (go_at_call_of 9 (Value.agg #[Value.int IntKind.u32 (A : Int), Value.int IntKind.u32 (B : Int), Value.int IntKind.u32 (C : Int)]); refine (M1.out _ (by assumption)).mono ?_; rintro e w9 ⟨rfl, hd9⟩; obtain ⟨c0, c1, c2, c3, c4, c5, c6, c7, c8⟩ := KK.out w9 hd9; have hd9d := hd9.drew) | (go_at_call_of 9 (Value.agg #[Value.int IntKind.u32 (Aq : Int), Value.int IntKind.u32 (B : Int), Value.int IntKind.u32 (C : Int)]); refine (M2.out _ (by assumption)).mono ?_; rintro e w10 ⟨rfl, hd10⟩; obtain ⟨c0, c1, c2, c3, c4, c5, c6, c7, c8⟩ := KK.out w10 hd10; have hd10d := hd10.drew)))
        | fail
      all_goals
        go_wp2_with fail
        go_meet
        exact ⟨rfl, hd10⟩
    case rest =>
      rename World => wx
      obtain ⟨rfl, HB⟩ := hcut
      obtain ⟨-, -, -, k3, k4, k5, -, -, -⟩ := KK.out wx HB.out
      have MA := hid (M2.out wx HB.out)
      clear M1 c0 c1 c2 c3 c4 c5 c6 c7 c8 hd0 hd1
      go_wp2_with fail
      refine MA.out.mono ?_
      rintro e w12 ⟨rfl, hd12⟩
      obtain ⟨-, -, -, -, -, -, k6, k7, k8⟩ := KK.out w12 hd12
      have MB := hid (M3.out w12 hd12)
      clear MA k3 k4 k5 M2 M3 KK
      go_wp2_with fail
      refine MB.out.mono ?_
      rintro e w13 ⟨rfl, hd13⟩
      have BF := hid (B8.out.trans (hd13.mono B8.out.size))
      clear MB k6 k7 k8 hd12 hd13
      go_wp2_with fail
      go_ret
      exact ⟨rfl, BF.out⟩
end Go.Proofs.YtfabmleiibnhdaaDoor.Qu
