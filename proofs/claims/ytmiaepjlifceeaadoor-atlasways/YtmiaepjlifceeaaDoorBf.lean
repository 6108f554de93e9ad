/- AtlasWays: the walk. -/
import Derived.Test.YtmiaepjlifceeaaDoorBe
namespace Go.Proofs.YtmiaepjlifceeaaDoor
open Go.RowKit Go.Shelf Go.Maps
set_option maxHeartbeats 800000 in
set_option maxRecDepth 100000 in
theorem way_nilp (Ad : Nat → Addr) (W : World) (hE : Env3 W Ad) (i j : Int) :
    Calls Tryd.prog 17 #[.pointer none, .int .i64 i, .int .i64 j] W fun e W' => ∃ t q, e = .returned (.tuple #[.slice none 0 0, .iface t q]) ∧ Err Ad W' (.iface t q) 2 2 ∧ Below W.heap.size W W' := by
  have MN := hid (mask_nilp Ad W hE i)
  have AC := hid (fun s v w h => at_err Ad s v 2 1 w h)
  clear hE
  go_enter Tryd.func17, Tryd.ntmps17
  go_wp2_with fail
  refine MN.out.mono ?_
  rintro e w1 ⟨t, q, rfl, hv, hb⟩
  have HV := hid hv
  have HB := hid hb
  clear hv hb MN
  go_wp2_with fail
  refine (AC.out _ _ _ HV.out).mono ?_
  rintro e w2 ⟨t2, q2, rfl, hv2, hb2⟩
  have HV2 := hid hv2
  have HB2 := hid (HB.out.trans (hb2.mono HB.out.size))
  clear hv2 hb2 AC
  go_wp2_with fail
  go_ret2
  exact ⟨t2, q2, rfl, HV2.out, HB2.out⟩
theorem pow_and (c : Nat) : 2 ^ c &&& (2 ^ c - 1) = 0 := by rw [Nat.and_two_pow_sub_one_eq_mod]; simp
theorem pow_sub_one {x y c : Nat} (h : x.testBit c ≠ y.testBit c) : 2 ^ c &&& (x ^^^ y) = 2 ^ c := by
  refine Nat.eq_of_testBit_eq fun i => ?_
  rw [Nat.testBit_and, Nat.testBit_two_pow, Nat.testBit_xor]
  by_cases e : c = i
  · subst e
    cases hx : x.testBit c <;> cases hy : y.testBit c <;> simp_all
  · simp [e]
theorem an_or {q x y : Nat} (hq : q < 4294967296) (hx : x < 65536) (hy : y < 65536) (h : ∀ e, q.testBit e = true → x.testBit e = true ∨ y.testBit e = true) : an q (x ||| y) = 0 := by
  refine Nat.eq_of_testBit_eq fun i => ?_
  have := Nat.or_lt_two_pow (n := 16) hx hy
  rw [an_bit _ _ _ hq (by omega), Nat.zero_testBit, Nat.testBit_or]
  cases hqi : q.testBit i with
  | false => rfl
  | true =>
    rcases h i hqi with e | e <;> simp [e]
set_option maxHeartbeats 3200000 in
set_option maxRecDepth 100000 in
theorem ways_law (w : World) (Ad : Nat → Addr) (hE : Env3 w Ad) (x0 y0 : Nat) (hx0 : x0 < 4294967296) (hy0 : y0 < 4294967296) :
    Calls Tryd.prog 6 #[.int .u32 (x0 : Int), .int .u32 (y0 : Int)] w fun e w' => e = .returned (.bool true) ∧ Below w.heap.size w w' := by
  have hx := and16 x0 hx0
  have hy := and16 y0 hy0
  have x16 : x0 % 65536 < 65536 := Nat.mod_lt _ (by decide)
  have y16 : y0 % 65536 < 65536 := Nat.mod_lt _ (by decide)
  have AW := hid (awake_any w Ad hE)
  have HE := hid hE
  generalize x0 % 65536 = x at *
  generalize y0 % 65536 = y at *
  clear hE hx0 hy0
  go_enter Tryd.func6, Tryd.ntmps6
  go_wp2_with fail
  refine AW.out.mono ?_
  rintro e w1 ⟨rfl, b1⟩
  have NC := hid (kep_new b1)
  clear AW b1
  go_wp2_with fail
  refine NC.out.mono ?_
  rintro e w2 ⟨rb, S, rfl, K2⟩
  have A2 := hid (kep_at K2.out x x16)
  clear NC
  go_wp2_with fail
  refine A2.out.mono ?_
  rintro e w3 ⟨i, s3, S3, rfl, M3, K3, -⟩
  have n3 : Hid (s3.n = 16) := M3.out.n
  have I3 := hid M3.out.new
  have A3 := hid (kep_at K3.out y (by rw [n3.out]; exact y16))
  clear A2 K2 hx
  go_wp2_with fail
  refine A3.out.mono ?_
  rintro e w4 ⟨j, s4, S4, rfl, M4, K4, -⟩
  have I4 := hid (M4.out.old I3.out)
  have J4 := hid M4.out.new
  have WA := hid (way_ok K4.out.atl i j x y I4.out J4.out)
  have WR' := hid (way_right K4.out.atl.ok.nd I4.out J4.out x16 y16)
  clear A3 K3 M3 M4 I3 n3 hy
  go_wp2_with fail
  refine WA.out.mono ?_
  rintro e w5 ⟨lv, rfl, i5, S5, a5, st5, -, -⟩
  have K5 : Hid (Kep w w.heap.size rb ⟨s4.n, (way s4.l i x y).l⟩ S5 w5) := ⟨a5, K4.out.bel.trans ((K4.out.atl.below st5).mono K4.out.base), K4.out.base⟩
  obtain ⟨la, lc, rfl⟩ := i5.slice
  have I5 := hid i5
  obtain ⟨gd, hm, hlen⟩ := WR'.out
  have GD := hid gd
  have HLN := hid hlen
  have hcl := cnt_le x y 16
  have hl17 : (way s4.l i x y).w.length ≤ 17 := by omega
  have hl1 : 1 ≤ (way s4.l i x y).w.length := by omega
  obtain ⟨k, hk1, hk2⟩ := gd.cur
  have hkj : k = j := by
    rw [hm] at hk2
    exact K5.out.one hk2 (gd.old J4.out)
  subst hkj
  obtain ⟨g, rfl, -, -⟩ := i5.some (by omega)
  have d0 := i5.cell gd.w0
  have d1 := i5.cell hk1
  clear WA WR' i5 a5 st5 gd hm hlen hk1 hk2 I4 J4 K4
  generalize way s4.l i x y = t at *
  generalize hL : t.w.length = L at *
  have HL := hid hL
  have z0 : ¬ (L = 0) := by omega
  have z1 : (1 : Int) ≤ (L : Int) := by omega
  have z2 : (L : Int) ≤ 17 := by omega
  have z3 : (L : Int) - 1 = ((L - 1 : Nat) : Int) := by omega
  have z4 : (0 : Int) < (L : Int) := by omega
  have z5 : ((L - 1 : Nat) : Int) < (L : Int) := by omega
  clear hL
  go_wp2_with fail
  clear d0 d1
  go_loopg [13, 14] 16 (fun gh nv cv wq => ∃ k : Nat, k ≤ 16 ∧ gh = 16 - k ∧ cv = .int .i64 (k : Int) ∧ nv = .int .i64 (cnt x y k : Int) ∧ Hid (Below w5.heap.size w5 wq))
  case atStart => exact ⟨0, by omega, rfl, rfl, rfl, Below.refl _ _⟩
  case round =>
    rename World => wq
    obtain ⟨q, hq, rfl, rfl, rfl, HB⟩ := hrel
    have hcq := cnt_le x y q
    by_cases hlt : q < 16
    · have hqi : (q : Int) < 16 := by omega
      have hqj : (q : Int) ≤ 32 := by omega
      have rx := tmod_val x q
      have ry := tmod_val y q
      have CN := hid (show cnt x y (q + 1) = cnt x y q + if x.testBit q = y.testBit q then 0 else 1 from rfl)
      generalize hz : cnt x y q = z at *
      have HZ := hid hz
      clear hz
      have hzi : (z : Int) ≤ 16 := by omega
      cases hbx : x.testBit q <;> cases hby : y.testBit q
      all_goals
        rw [hbx] at rx
        rw [hby] at ry
        simp only [if_true, if_false, Bool.false_eq_true] at rx ry
        rw [hbx, hby] at CN
        simp only [if_true, Bool.false_eq_true, reduceCtorEq, if_false] at CN
        clear hbx hby
        go_wp2_with fail
        go_quiet (fail)
        go_wp2_with fail
        go_roundg (16 - (q + 1))
        case measure => omega
        case rel => exact ⟨q + 1, by omega, rfl, by go_num, by rw [CN.out]; go_num, HB.out.trans ((drewN_below _ _).mono HB.out.size)⟩
    · have hqi : ¬ ((q : Int) < 16) := by omega
      have HQ : Hid (cnt x y q = cnt x y 16) := by show _ = _; rw [show q = 16 by omega]
      clear hq hlt
      go_wp2_with fail
      go_loopg [15, 16, 17, 18, 19, 20] L (fun gh iv _ _ _ _ _ wz => ∃ r : Nat, r + 1 ≤ L ∧ gh = L - r ∧ iv = .int .i64 ((r : Int) + 1) ∧ Hid (Below w5.heap.size w5 wz))
      case atStart => exact ⟨0, by omega, rfl, rfl, HB.out⟩
      case round =>
        clear HB
        rename World => wz
        obtain ⟨r, hr, rfl, rfl, HB⟩ := hrel
        have KZ := hid (K5.out.later HB.out)
        have IZ := hid (I5.out.later HB.out)
        by_cases hrl : r + 1 < L
        · have hri : (r : Int) + 1 < (L : Int) := by omega
          have hrj : (r : Int) < (L : Int) := by omega
          obtain ⟨a, b, p, q', c, ha, hb, hs⟩ := GD.out.step (r + 1) (by omega) (by rw [HL.out]; exact hrl)
          rw [Nat.add_sub_cancel] at ha
          have iz := IZ.out
          rw [← HL.out] at iz
          have d0 := iz.cell ha
          have d1 := iz.cell hb
          have MP := hid (mask_some KZ.out.atl a p hs.pa)
          have MQ := hid (mask_some KZ.out.atl b q' hs.qb)
          have p32 := (KZ.out.atl.u32 hs.pa).2
          have q32 := (KZ.out.atl.u32 hs.qb).2
          have D16 : 2 ^ c < 65536 := Nat.pow_lt_pow_right (a := 2) (by decide) hs.c16
          have D0 : 0 < 2 ^ c := Nat.two_pow_pos c
          have O16 := Nat.or_lt_two_pow (n := 16) x16 y16
          have X16 := Nat.xor_lt_two_pow (n := 16) x16 y16
          have b1 := bits_xor32 p q' p32 q32
          rw [hs.d] at b1
          have b2 := bits_xor32 x y (by omega) (by omega)
          have b3 := bits_and32 (2 ^ c) (x ^^^ y) (by omega) (by omega)
          rw [pow_sub_one hs.df] at b3
          have b4 := bits_or32 x y (by omega) (by omega)
          have b5 := bits_an32 q' (x ||| y) q32 (by omega)
          rw [an_or q32 x16 y16 hs.sub] at b5
          have b6 := bits_and32 (2 ^ c) (2 ^ c - 1) (by omega) (by omega)
          rw [pow_and] at b6
          have b0 : ((2 ^ c : Nat) : Int) - 1 = ((2 ^ c - 1 : Nat) : Int) := by generalize 2 ^ c = D at D0 ⊢; omega
          have b5 : bits .andNot .u32 (q' : Int) ((x ||| y : Nat) : Int) = 0 := b5
          have b6 : bits .and .u32 ((2 ^ c : Nat) : Int) (((2 ^ c : Nat) : Int) - 1) = 0 := by rw [b0]; exact b6
          have bz : ¬ (((2 ^ c : Nat) : Int) = 0) := by generalize 2 ^ c = D at D0 ⊢; omega
          clear hs ha hb iz p32 q32 O16 X16 b0
          generalize (2 ^ c : Nat) = D at *
          generalize x ^^^ y = X at *
          generalize x ||| y = O at *
          go_wp2_with fail
          refine MP.out.mono ?_
          rintro e w6 ⟨rfl, rfl⟩
          go_wp2_with fail
          refine MQ.out.mono ?_
          rintro e w7 ⟨rfl, rfl⟩
          clear MP MQ
          go_wp2_with fail
          go_roundg (L - (r + 1))
          case measure => omega
          case rel => exact ⟨r + 1, by omega, rfl, by go_num, HB.out⟩
        · have hri : ¬ ((r : Int) + 1 < (L : Int)) := by omega
          have EZ := hid (HE.out.later KZ.out.bel)
          have AN : Hid (Calls Tryd.prog 12 #[.pointer none, .int .u32 0] wz fun e W' => ∃ t q, e = .returned (.tuple #[.int .i64 0, .iface t q]) ∧ Err Ad W' (.iface t q) 2 1 ∧ Below wz.heap.size wz W') := at_nilp Ad wz EZ.out 0
          clear hr hrl
          go_wp2_with fail
          refine AN.out.mono ?_
          rintro e w6 ⟨t6, q6, rfl, v6, b6⟩
          have V6 := hid v6
          have B6 := hid (KZ.out.bel.trans (b6.mono KZ.out.bel.size))
          have WN := hid (way_nilp Ad w6 (HE.out.later B6.out) 0 0)
          clear AN v6 b6
          go_wp2_with fail
          refine WN.out.mono ?_
          rintro e w7 ⟨t7, q7, rfl, v7, b7⟩
          have V7 := hid v7
          have U7 := hid (V6.out.later b7)
          have B7 := hid (B6.out.trans (b7.mono B6.out.size))
          have E7 := hid (HE.out.later B7.out)
          have IS := hid (is_err Ad (k := 2) E7.out U7.out (by decide) (by decide))
          have k1 := E7.out.c2
          have LC : Hid (L = cnt x y 16 + 1) := HLN.out
          have hLq : ((L : Int) == (cnt x y q : Int) + 1) = true := by rw [beq_iff_eq, HQ.out]; have := LC.out; omega
          have hcb : (cnt x y q : Int) ≤ 16 := by have := cnt_le x y 16; rw [HQ.out]; omega
          clear WN v7 b7
          go_wp2_with fail
          refine IS.out.mono ?_
          rintro e w8 ⟨rfl, b8⟩
          have B8 := hid (B7.out.trans (b8.mono B7.out.size))
          have E8 := hid (HE.out.later B8.out)
          have IS2 := hid (is_err Ad (k := 2) E8.out (V7.out.later b8) (by decide) (by decide))
          have k2 := E8.out.c2
          clear IS b8 k1
          go_wp2_with fail
          refine IS2.out.mono ?_
          rintro e w9 ⟨rfl, b9⟩
          have B9 := hid (B8.out.trans (b9.mono B8.out.size))
          clear IS2 b9 k2
          go_wp2_with fail
          refine (len_nil _).mono ?_
          rintro e w10 ⟨rfl, rfl⟩
          go_wp2_with fail
          refine (match_nil _ _ _).mono ?_
          rintro e w11 ⟨rfl, rfl⟩
          go_wp2_with fail
          go_ret
          exact ⟨rfl, B9.out⟩
end Go.Proofs.YtmiaepjlifceeaaDoor
