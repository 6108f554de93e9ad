/- AtlasTurns: the walk. -/
import Derived.Test.YtmiaepjlifceeaaDoorBa
namespace Go.Proofs.YtmiaepjlifceeaaDoor
open Go.RowKit Go.Shelf Go.Maps
set_option maxHeartbeats 3200000 in
set_option maxRecDepth 100000 in
theorem turns_law (w : World) (Ad : Nat → Addr) (hE : Env3 w Ad) (m0 : Nat) (h0 : m0 < 4294967296) (ci di : Int) :
    Calls Tryd.prog 5 #[.int .u32 (m0 : Int), .int .i64 ci, .int .i64 di] w fun e w' => e = .returned (.bool true) ∧ Below w.heap.size w w' := by
  obtain ⟨u1, c, hc, hu1, hr1⟩ := rem_at ci 16 (by decide)
  obtain ⟨u2, d, hd, hu2, hr2⟩ := rem_at di 16 (by decide)
  have hr1 : u1.tmod 16 = (c : Int) := hr1
  have hr2 : u2.tmod 16 = (d : Int) := hr2
  have hci : (c : Int) ≤ 15 := by omega
  have hdi : (d : Int) ≤ 15 := by omega
  have hm := and16 m0 h0
  have hml : m0 % 65536 < 65536 := Nat.mod_lt _ (by decide)
  have AW := hid (awake_any w Ad hE)
  generalize m0 % 65536 = m at *
  clear hE h0
  go_enter Tryd.func5, Tryd.ntmps5
  go_wp2_with fail
  refine AW.out.mono ?_
  rintro e w1 ⟨rfl, b1⟩
  have NC := hid (kep_new b1)
  clear AW b1
  go_wp2_with fail
  refine NC.out.mono ?_
  rintro e w2 ⟨rb, S, rfl, K2⟩
  have A2 := hid (kep_at K2.out m hml)
  clear NC
  go_wp2_with fail
  refine A2.out.mono ?_
  rintro e w3 ⟨n, s3, S3, rfl, M3, K3, -⟩
  have nn : Hid (s3.n = 16) := M3.out.n
  have N3 := hid M3.out.new
  have A3 := hid (kep_with K3.out N3.out c (by rw [nn.out]; exact hc))
  clear A2 K2 hm
  go_wp2_with fail
  refine A3.out.mono ?_
  rintro e w4 ⟨x, s4, S4, rfl, M4, K4, -⟩
  have n4 : Hid (s4.n = 16) := M4.out.n.trans nn.out
  have N4 := hid (M4.out.old N3.out)
  have X4 := hid M4.out.new
  have A4 := hid (kep_with K4.out X4.out d (by rw [n4.out]; exact hd))
  clear A3 K3 M3 M4 N3 nn
  go_wp2_with fail
  refine A4.out.mono ?_
  rintro e w5 ⟨y, s5, S5, rfl, M5, K5, -⟩
  have n5 : Hid (s5.n = 16) := M5.out.n.trans n4.out
  have N5 := hid (M5.out.old N4.out)
  have X5 := hid (M5.out.old X4.out)
  have Y5 := hid M5.out.new
  have A5 := hid (kep_with K5.out N5.out d (by rw [n5.out]; exact hd))
  clear A4 K4 M5 N4 X4 n4
  go_wp2_with fail
  refine A5.out.mono ?_
  rintro e w6 ⟨z, s6, S6, rfl, M6, K6, -⟩
  have n6 : Hid (s6.n = 16) := M6.out.n.trans n5.out
  have N6 := hid (M6.out.old N5.out)
  have X6 := hid (M6.out.old X5.out)
  have Y6 := hid (M6.out.old Y5.out)
  have Z6 := hid M6.out.new
  have A6 := hid (kep_with K6.out Z6.out c (by rw [n6.out]; exact hc))
  clear A5 K5 M6 N5 X5 Y5 n5
  go_wp2_with fail
  refine A6.out.mono ?_
  rintro e w7 ⟨u, s7, S7, rfl, M7, K7, -⟩
  have n7 : Hid (s7.n = 16) := M7.out.n.trans n6.out
  have N7 := hid (M7.out.old N6.out)
  have X7 := hid (M7.out.old X6.out)
  have Y7 := hid (M7.out.old Y6.out)
  have U7 := hid M7.out.new
  have A7 := hid (kep_with K7.out X7.out c (by rw [n7.out]; exact hc))
  have YU : y = u := K7.out.one Y7.out (by rw [wi_comm]; exact U7.out)
  subst YU
  clear A6 K6 M7 N6 X6 Y6 Z6 n6 Y7 U7
  go_wp2_with fail
  refine A7.out.mono ?_
  rintro e w8 ⟨ag, s8, S8, rfl, M8, K8, -⟩
  have n8 : Hid (s8.n = 16) := M8.out.n.trans n7.out
  have N8 := hid (M8.out.old N7.out)
  have X8 := hid (M8.out.old X7.out)
  have AX : ag = x := K8.out.one M8.out.new (by rw [wi_twice]; exact X8.out)
  subst AX
  have A8 := hid (kep_without K8.out X8.out c (by rw [n8.out]; exact hc))
  clear A7 K7 M8 N7 X7 n7
  go_wp2_with fail
  refine A8.out.mono ?_
  rintro e w9 ⟨bk, s9, S9, rfl, M9, K9, -⟩
  have n9 : Hid (s9.n = 16) := M9.out.n.trans n8.out
  have N9 := hid (M9.out.old N8.out)
  have X9 := hid (M9.out.old X8.out)
  have B9 := hid M9.out.new
  have A9 := hid (kep_without K9.out N9.out c (by rw [n9.out]; exact hc))
  clear A8 K8 M9 N8 X8 n8
  go_wp2_with fail
  refine A9.out.mono ?_
  rintro e w10 ⟨ls, s10, S10, rfl, M10, K10, -⟩
  have N10 := hid (M10.out.old N9.out)
  have X10 := hid (M10.out.old X9.out)
  have B10 : Hid (s10.l[bk]? = some (wo m c)) := by
    have := M10.out.old B9.out
    rw [wo_wi m c hml hc] at this
    exact this
  have LB : ls = bk := K10.out.one M10.out.new B10.out
  subst LB
  have MK := hid (mask_some K10.out.atl ag (wi m c) X10.out)
  clear A9 K9 M10 N9 X9 B9 n9
  go_wp2_with fail
  refine MK.out.mono ?_
  rintro e w11 ⟨rfl, rfl⟩
  have hq : (((wi m c : Nat) : Int) == bits .or .u32 (m : Int) (2 ^ c % 4294967296)) = true := by
    have := bitI_in c (by omega)
    unfold bitI at this
    rw [if_pos (by omega), Int.toNat_natCast] at this
    rw [this, bits_or32 m _ (by omega) (pow32 (by omega))]
    simp [wi]
  have q1 := tmod_one m c
  have q0 := tmod_zero m c
  have BF := hid K10.out.bel
  clear MK
  cases ht : m.testBit c with
  | true =>
    have XN : ag = n := K10.out.one X10.out (by rw [wi_has ht]; exact N10.out)
    subst XN
    rw [ht] at q1 q0
    clear ht N10 X10 B10 K10
    generalize wi m c = k at *
    go_wp2_with fail
    go_ret
    exact ⟨rfl, BF.out⟩
  | false =>
    have BN : ls = n := K10.out.one B10.out (by rw [wo_hasnt hml hc ht]; exact N10.out)
    subst BN
    rw [ht] at q1 q0
    have q0 : (((m : Int) / 2 ^ c).tmod 2 == 0) = true := q0
    clear ht N10 X10 B10 K10
    generalize wi m c = k at *
    go_wp2_with fail
    go_ret
    exact ⟨rfl, BF.out⟩
end Go.Proofs.YtmiaepjlifceeaaDoor
