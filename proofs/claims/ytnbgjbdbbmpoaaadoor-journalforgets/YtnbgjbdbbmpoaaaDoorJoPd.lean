/- JournalForgets. -/
import Derived.Test.YtnbgjbdbbmpoaaaDoorJoPc
namespace Go.Proofs.YtnbgjbdbbmpoaaaDoor.Jo
open Go.RowKit Go.Shelf Go.Maps
/-- An error of a nil thing, in a world that was W0. -/
structure ER (Ad : Nat → Addr) (W0 : World) (t : TypeId) (q : Value) (W : World) : Prop where
  err : Err Ad W (.iface t q) 2 1
  base : Below W0.heap.size W0 W
set_option maxHeartbeats 6400000 in
set_option maxRecDepth 100000 in
theorem forgets_law (W : World) (Ad : Nat → Addr) (hE : Env8 W Ad) (v0 : Value) (cs : List Int) (hC : IRow W v0 cs) (at1 : Int) :
    Calls Tryd.prog 6 #[v0, .int .i64 at1] W fun e W' => e = .returned (.bool true) ∧ Below W.heap.size W W' := by
  have AW := hid (awake_any Ad W hE)
  have HE := hid hE
  have HC := hid hC
  obtain ⟨a0, c0, rfl, -⟩ := hC
  clear hE
  by_cases hlen : cs.length = 0 ∨ 20 < cs.length
  · have BW : Hid (∀ w1, Below W.heap.size W w1 → Calls Tryd.prog 9 #[.int .i64 1024] w1 fun e w => e = .returned (.tuple #[.pointer (some ⟨w1.heap.size, 0, none⟩), .nilIface]) ∧ Below W.heap.size W w) := fun w1 hb => (wj_new w1 1024 (by decide) (by decide)).mono fun _ _ q => ⟨q.1, hb.trans ((q.2.base (Nat.le_refl _)).mono hb.size)⟩
    rcases hlen with hl | hl
    · have hli : (cs.length : Int) = 0 := by omega
      go_enter Tryd.func6, Tryd.ntmps6
      go_wp2_with fail
      refine AW.out.mono ?_
      rintro e w1 ⟨rfl, b1⟩
      have B1 := hid b1
      clear AW b1
      go_wp2_with fail
      refine (BW.out _ B1.out).mono ?_
      rintro e w2 ⟨rfl, b2⟩
      have B2 := hid b2
      clear BW b2
      go_wp2_with fail
      go_ret
      exact ⟨rfl, B2.out⟩
    · have hli : 20 < (cs.length : Int) := by omega
      have hln : ¬ (cs.length : Int) = 0 := by omega
      have hne : ((cs.length : Int) == 0) = false := beq_eq_false_iff_ne.2 hln
      go_enter Tryd.func6, Tryd.ntmps6
      go_wp2_with fail
      refine AW.out.mono ?_
      rintro e w1 ⟨rfl, b1⟩
      have B1 := hid b1
      clear AW b1
      go_wp2_with fail
      refine (BW.out _ B1.out).mono ?_
      rintro e w2 ⟨rfl, b2⟩
      have B2 := hid b2
      clear BW b2
      go_wp2_with fail
      go_ret
      exact ⟨rfl, B2.out⟩
  · have h1 : 1 ≤ cs.length := by omega
    have h20 : cs.length ≤ 20 := by omega
    have hli : (cs.length : Int) ≤ 20 := by omega
    have hli1 : ¬ 20 < (cs.length : Int) := by omega
    have hln : ¬ (cs.length : Int) = 0 := by omega
    have hne : ((cs.length : Int) == 0) = false := beq_eq_false_iff_ne.2 hln
    obtain ⟨u2, kk, hkk, hu2, hr2⟩ := rem_at at1 (cs.length + 1) (by omega)
    have hwl : IntKind.u64.wrap ((cs.length : Int) + 1) = (cs.length : Int) + 1 := by
      show ((cs.length : Int) + 1) % _ = _
      exact Int.emod_eq_of_lt (by omega) (by simp [IntKind.bits]; omega)
    have hwi : IntKind.i64.wrap ((cs.length : Int) + 1) = (cs.length : Int) + 1 := wrap_mid (by omega) (by omega)
    rw [Int.natCast_add, Int.natCast_one] at hr2
    have HU2 := hid hu2
    have HR2 := hid hr2
    clear hlen hu2 hr2
    go_enter Tryd.func6, Tryd.ntmps6
    go_wp2_with fail
    refine AW.out.mono ?_
    rintro e w1 ⟨rfl, b1⟩
    have B1 := hid b1
    have NW := hid (wj_new w1 1024 (by decide) (by decide))
    clear AW b1
    go_wp2_with fail
    refine NW.out.mono ?_
    rintro e w2 ⟨rfl, h2⟩
    have A2 := hid (h2.later (bAl w2 (.cells #[] 3)))
    have N2 := hid ((ns_new w2).lower (h2.base (Nat.le_refl _)).size)
    clear NW h2
    go_wp2_with fail
    go_loopg [7, 8, 9, 10] cs.length (fun gh s7 s8 s9 _ wr => ∃ (k : Nat) (av : Option Addr) (cv : Nat), k ≤ cs.length ∧ gh = cs.length - k ∧ s9 = .int .i64 (k : Int) ∧ s7 = .int .i64 (gN cs k : Int) ∧ s8 = .slice av k cv ∧ Hid (Wj w1 w1.heap.size 1024 (stF 1 cs k) wr) ∧ Hid (Ns w1.heap.size wr (.slice av k cv) (bgF cs k)))
    case atStart => exact ⟨0, _, _, Nat.zero_le _, rfl, rfl, rfl, rfl, A2.out, N2.out⟩
    case round =>
      clear A2 N2
      rename World => wr
      obtain ⟨k, av, cv, hk, rfl, rfl, rfl, rfl, HA, HN⟩ := hrel
      by_cases hlt : k < cs.length
      · have hki : (k : Int) < (cs.length : Int) := by omega
        have hg := gN_le cs k
        obtain ⟨x, hx⟩ := at_lt cs k hlt
        have hxd : cs[k]?.getD 0 = x := by rw [hx]; rfl
        obtain ⟨b, o, rfl, -⟩ := HC.out.at hx
        have CC : Hid (∀ wz, Below w1.heap.size w1 wz → wz.cell? ⟨b, o + k, none⟩ = some (.int .i64 x)) := fun wz hb => by
          obtain ⟨b', o', e, d⟩ := (HC.out.later (B1.out.trans (hb.mono B1.out.size))).at hx
          obtain ⟨rfl, rfl⟩ : b = b' ∧ o = o' := by simpa using e
          exact d
        obtain ⟨u, hu, hr⟩ := cq_at x
        have hc := cq_lt x
        have GM := hid (wj_mark HA.out ((k : Int)) (by omega) (by omega) (by have := stF_above (d := 1) (by decide) cs k; rwa [Int.one_mul] at this))
        have hNl : (bgF cs k).length ≤ 10000000 := by rw [bgF_len]; omega
        have HNL := hid hNl
        have HX := hid hxd
        clear hNl hxd hx
        go_wp2_with fail
        refine GM.out.mono ?_
        rintro e w3 ⟨rfl, h3, s3⟩
        have A3 := hid h3
        have N3 := hid (HN.out.apt s3)
        have Z3 := hid (h3.base (Nat.le_refl _)).size
        clear GM h3 s3 HA HN
        go_wp2_with (at_builtin; refine wpList_num rfl _ _ rfl (k := (gN cs k : Int)) N3.out HNL.out Z3.out rfl rfl ?_; intro v' w4 hN hS; obtain ⟨av', cv', rfl⟩ := hN.out.slice)
        have A4 := hid (A3.out.num N3.out (Nat.le_refl _) hS.out)
        have N4 : Hid (Ns w1.heap.size w4 (.slice av' (k + 1) cv') (bgF cs (k + 1))) := by
          show Ns _ _ _ _
          have := hN.out
          rw [← bgF_succ, bgF_len] at this
          exact this
        have el : (bgF cs k ++ [(gN cs k : Int)]).length = k + 1 := by rw [← bgF_succ, bgF_len]
        have el2 : (bgF cs k).length + 1 = k + 1 := by rw [bgF_len]
        first | rw [el] | rw [el2]
        clear hN hS A3 N3 Z3 HNL el el2
        obtain ⟨c, hcd⟩ : ∃ c, cq x = c := ⟨_, rfl⟩
        rw [hcd] at hr hc
        have hci : (c : Int) ≤ 20 := by omega
        have HCD := hid hcd
        clear hcd
        go_loopg [7, 10] c (fun gh s7 s10 wz => ∃ q m : Nat, q ≤ c ∧ gh = c - q ∧ s10 = .int .i64 (q : Int) ∧ s7 = .int .i64 (m : Int) ∧ Hid (m = gN cs k + q) ∧ Hid (Wj w1 w1.heap.size 1024 (stF 1 cs k ++ [((k : Int), rowE (gN cs k) q)]) wz) ∧ Hid (Ns w1.heap.size wz (.slice av' (k + 1) cv') (bgF cs (k + 1))))
        case atStart => exact ⟨0, gN cs k, Nat.zero_le _, rfl, rfl, rfl, rfl, A4.out, N4.out⟩
        case round =>
          clear A4 N4
          rename World => wz
          obtain ⟨q, m, hq, rfl, rfl, rfl, HM, HA, HN⟩ := hrel
          have d0 := CC.out wz (HA.out.base (Nat.le_refl _))
          by_cases hqc : q < c
          · have hqi : (q : Int) < (c : Int) := by omega
            have hmi : (m : Int) ≤ 1000 := by have := HM.out; omega
            have GN := hid (wj_spawn HA.out m HM.out (by omega) (by rw [totP_snoc, stF_tot, rowE_len]; omega))
            go_wp2_with fail
            refine GN.out.mono ?_
            rintro e w5 ⟨rfl, h5, s5⟩
            have A5 := hid h5
            have N5 := hid (HN.out.apu s5)
            clear GN h5 s5 HA HN d0
            go_wp2_with fail
            go_roundg (c - (q + 1))
            case measure => omega
            case rel => exact ⟨q + 1, m + 1, by omega, rfl, by go_num, by go_num, by have := HM.out; show _ = _; omega, A5.out, N5.out⟩
          · obtain rfl : q = c := by omega
            have hqi : ¬ (q : Int) < (q : Int) := by omega
            have A6 : Hid (Wj w1 w1.heap.size 1024 (stF 1 cs (k + 1)) wz) := by
              show Wj _ _ _ _ _
              rw [stF_succ, HX.out, HCD.out, Int.one_mul]
              exact HA.out
            have hm2 : m = gN cs (k + 1) := by
              rw [HM.out, ← HCD.out, ← HX.out]
              rfl
            clear HA HM
            subst hm2
            go_wp2_with fail
            go_roundg (cs.length - (k + 1))
            case measure => omega
            case rel => exact ⟨k + 1, av', cv', by omega, rfl, by go_num, rfl, rfl, A6.out, HN.out⟩
      · obtain rfl : k = cs.length := by omega
        have hki : ¬ (cs.length : Int) < (cs.length : Int) := by omega
        have hu2 := HU2.out
        have hr2 := HR2.out
        have hkki : (kk : Int) ≤ 20 := by omega
        obtain ⟨m, hm⟩ : ∃ m, min kk (cs.length - 1) = m := ⟨_, rfl⟩
        have hmn : m < cs.length := by omega
        have GF := hid (wj_forget HA.out (by intro e; have := congrArg List.length e; rw [stF_len, List.length_nil] at this; omega) (by rw [stF_len]; omega) (kk : Int))
        rw [stF_stays cs (by omega) h1, hm, stF_take 1 cs (by omega), stF_tot] at GF
        have HM := hid hm
        clear hm
        go_wp2_with fail
        refine GF.out.mono ?_
        rintro e w5 ⟨rfl, h5, s5⟩
        have A5 := hid h5
        have N5 := hid (HN.out.apt s5)
        clear GF h5 s5 HA HN hu2 hr2
        have GM := hid (wj_marks A5.out (by simp [stF_len]; omega))
        go_upto_region 21 with fail
        have emin : (if (cs.length : Int) - 1 < (kk : Int) then (cs.length : Int) - 1 else (kk : Int)) = (m : Int) := by have := HM.out; split <;> omega
        rw [emin]
        clear emin
        obtain ⟨R, hR⟩ : ∃ R, cs.length = m + R := ⟨cs.length - m, by omega⟩
        have hR1 : cs.length - m = R := by omega
        have HR := hid hR
        go_wp2_with fail
        refine GM.out.mono ?_
        rintro e w6 ⟨v6, rfl, hv6, b6⟩
        obtain ⟨am, cm, rfl⟩ := hv6.slice
        have hml : (((stF 1 cs cs.length).drop m).map Prod.fst).length = R := by rw [List.length_map, List.length_drop, stF_len]; omega
        have V6 := hid hv6
        have A6 := hid (A5.out.later b6)
        have N6 := hid (N5.out.later b6)
        rw [hml] at V6
        rw [hml]
        have hmono := gN_mono cs (show m ≤ cs.length by omega)
        have hgle := gN_le cs cs.length
        obtain ⟨L, hL⟩ : ∃ L, gN cs cs.length = gN cs m + L := ⟨gN cs cs.length - gN cs m, by omega⟩
        have GL := hid (wj_len A6.out)
        rw [stF_tot_drop 1 cs (by omega), show gN cs cs.length - gN cs m = L by omega] at GL
        obtain ⟨n1, hn1⟩ : ∃ n1, gN cs cs.length = n1 := ⟨_, rfl⟩
        obtain ⟨n0, hn0⟩ : ∃ n0, gN cs m = n0 := ⟨_, rfl⟩
        have HN1 := hid hn1
        have HN0 := hid hn0
        rw [hn1, hn0] at hL
        rw [hn1] at hgle
        have hn1i : (n1 : Int) ≤ 400 := by omega
        have hn0i : (n0 : Int) ≤ 400 := by omega
        obtain ⟨gb, hgb, d0⟩ : ∃ g, av = some ⟨g, 0, none⟩ ∧ w6.cell? ⟨g, m, none⟩ = some (.int .i64 (n0 : Int)) := by
          obtain ⟨g, e, d, -⟩ := N6.out.at2 (bgF_len cs _) ((bgF_at cs hmn).trans (by rw [hn0]))
          exact ⟨g, e, d⟩
        subst hgb
        rw [hn1, hn0]
        have hsub : (n1 : Int) - (n0 : Int) = (L : Int) := by omega
        have hwL : IntKind.i64.wrap (L : Int) = (L : Int) := wrap_mid (by omega) (by omega)
        have hsubR : (cs.length : Int) - (m : Int) = (R : Int) := by omega
        have hwR : IntKind.i64.wrap (R : Int) = (R : Int) := wrap_mid (by omega) (by omega)
        have hwm : IntKind.i64.wrap (m : Int) = (m : Int) := wrap_mid (by omega) (by omega)
        have hRi : (R : Int) ≤ 20 := by omega
        have hmi : (m : Int) ≤ 20 := by omega
        clear GM hv6 b6 A5 N5 hml hR hR1 hL hmono hgle hn1 hn0
        go_wp2_with fail
        refine GL.out.mono ?_
        rintro e w7 ⟨rfl, hq⟩
        obtain rfl := hq.symm
        clear GL d0
        go_wp2_with fail
        clear hsub hwL hsubR hwR
        go_loopg [14, 15, 16] R (fun gh s14 _ _ wy => ∃ i : Nat, i ≤ R ∧ gh = R - i ∧ s14 = .int .i64 (i : Int) ∧ Hid (Below w6.heap.size w6 wy))
        case atStart => exact ⟨0, Nat.zero_le _, rfl, rfl, Below.refl _ _⟩
        case round =>
          rename World => wy
          obtain ⟨i, hi, rfl, rfl, HY⟩ := hrel
          by_cases hil : i < R
          · have hii : (i : Int) < (R : Int) := by omega
            obtain ⟨t, ht⟩ : ∃ t, m + i = t := ⟨_, rfl⟩
            have htn : t < cs.length := by have := HR.out; omega
            have hti : (t : Int) ≤ 20 := by omega
            have hadd : (m : Int) + (i : Int) = (t : Int) := by omega
            have hwt : IntKind.i64.wrap (t : Int) = (t : Int) := wrap_mid (by omega) (by omega)
            have HT := hid ht
            obtain ⟨gm, rfl, d1, -⟩ := (V6.out.later HY.out).at2 (by rw [List.length_map, List.length_drop, stF_len]; have := HR.out; omega) (j := i) (x := (t : Int)) (by rw [← ht]; exact stF_mk cs (by omega))
            have d2 : wy.cell? ⟨gb, t, none⟩ = some (.int .i64 (gN cs t : Int)) := by
              obtain ⟨g, e, d, -⟩ := (N6.out.later HY.out).at2 (bgF_len cs _) (bgF_at cs htn)
              obtain rfl : gb = g := by simpa using e
              exact d
            have GS := hid (wj_since (A6.out.later HY.out) (by simp [stF_len]; omega) (t : Int) (by rw [← ht]; exact stF_marked_drop cs (by omega)))
            have hb2 : belowP (List.drop m (stF 1 cs cs.length)) (t : Int) = i := by rw [← ht]; exact stF_below_drop cs (by omega)
            rw [hb2] at GS
            have hlA : (accPl (((stF 1 cs cs.length).drop m).drop i)).length = n1 - gN cs t := by rw [stF_acc_drop 1 cs (by omega), HN1.out, ht]
            have hmono := gN_mono cs (show t ≤ cs.length by omega)
            rw [HN1.out] at hmono
            obtain ⟨nt, hnt⟩ : ∃ nt, gN cs t = nt := ⟨_, rfl⟩
            rw [hnt] at d2 hlA hmono
            obtain ⟨Lt, hLt⟩ : ∃ Lt, n1 = nt + Lt := ⟨n1 - nt, by omega⟩
            have hl2 : n1 - nt = Lt := by omega
            rw [hl2] at hlA
            have hsub : (n1 : Int) - (nt : Int) = (Lt : Int) := by omega
            have hwL : IntKind.i64.wrap (Lt : Int) = (Lt : Int) := wrap_mid (by omega) (by omega)
            have HLA := hid hlA
            have CC : Hid (∀ W', Below wy.heap.size wy W' → W'.cell? ⟨gm, i, none⟩ = some (.int .i64 (t : Int)) ∧ W'.cell? ⟨gb, t, none⟩ = some (.int .i64 (nt : Int))) := fun W' hb => ⟨seen hb (Nat.le_refl _) d1, seen hb (Nat.le_refl _) d2⟩
            clear hlA hmono hLt hl2 ht hb2 hnt d2
            go_wp2_with fail
            refine GS.out.mono ?_
            rintro e w8 ⟨lv, l, rfl, hu8, hl8, b8⟩
            obtain ⟨al, cl, rfl⟩ := hu8.form
            have hll : l.length = Lt := by have := congrArg List.length hl8; rw [HLA.out] at this; simpa using this
            rw [hll]
            obtain ⟨d3, d4⟩ := CC.out w8 b8
            have BB := hid (HY.out.trans (b8.mono HY.out.size))
            clear GS d1 hu8 hl8 b8 hll CC
            go_wp2_with fail
            go_roundg (R - (i + 1))
            case measure => omega
            case rel => exact ⟨i + 1, by omega, rfl, by go_num, BB.out⟩
          · obtain rfl : i = R := by omega
            have hii : ¬ (i : Int) < (i : Int) := by omega
            have A8 := hid (A6.out.later HY.out)
            have Z8 := hid (B1.out.trans ((A8.out.base (Nat.le_refl _)).mono B1.out.size))
            have E8 := hid (HE.out.later Z8.out)
            have GS := hid (since_nil E8.out 0)
            clear A6 V6 N6 HC
            go_wp2_with fail
            refine GS.out.mono ?_
            rintro e w8 ⟨t1, q1, rfl, hv8, b8⟩
            have X8 := hid hv8
            have Z9 := hid (Z8.out.trans (b8.mono Z8.out.size))
            have E9 := hid (E8.out.later b8)
            have GB := hid (back_nil E9.out 0)
            clear GS hv8 A8 E8 Z8 HY
            go_wp2_with fail
            refine GB.out.mono ?_
            rintro e w9 ⟨t2, q2, rfl, hv9, b9⟩
            have EV1 : Hid (∀ W', Below w9.heap.size w9 W' → ER Ad w9 t1 q1 W') := fun W' hb => ⟨(X8.out.later b9).later hb, hb⟩
            have EV2 : Hid (∀ W', Below w9.heap.size w9 W' → ER Ad w9 t2 q2 W') := fun W' hb => ⟨Err.later hv9 hb, hb⟩
            have Z10 := hid (Z9.out.trans (b9.mono Z9.out.size))
            have E10 := hid (E9.out.later b9)
            have IC : Hid (∀ t q W', ER Ad w9 t q W' → Calls Tryd.prog 11 #[.iface t q, .iface 130 (.pointer (some (Ad 2)))] W' fun e w => e = .returned (.bool true) ∧ Below w9.heap.size w9 w) := fun t q W' h => (is_err Ad (k := 2) (E10.out.later h.base) h.err (by decide) (by decide)).mono fun _ _ z => ⟨z.1, h.base.trans (z.2.mono h.base.size)⟩
            have KK : Hid (∀ W', Below w9.heap.size w9 W' → W'.cell? ⟨1, 0, none⟩ = some (.iface 130 (.pointer (some (Ad 2))))) := fun W' hb => (E10.out.later hb).k2
            have CM : Hid (∀ W', Below w9.heap.size w9 W' → Calls Tryd.prog 12 #[.pointer none, .int .i64 0] W' fun e w => (∃ t q, e = .returned (.iface t q) ∧ ER Ad w9 t q w) ∧ Below w9.heap.size w9 w) := fun W' hb => (mark_nil (E10.out.later hb) 0).mono fun _ w ⟨t, q, z1, z2, z3⟩ => ⟨⟨t, q, z1, z2, hb.trans (z3.mono hb.size)⟩, hb.trans (z3.mono hb.size)⟩
            have CN : Hid (∀ W', Below w9.heap.size w9 W' → Calls Tryd.prog 14 #[.pointer none, .agg #[.int .i64 0, .int .i64 0, .int .i64 0, .int .i64 0, .int .i64 0, .int .i64 0, .int .i64 0, .int .i64 0, .slice none 0 0, .int .i64 0, .int .i64 0]] W' fun e w => (∃ t q, e = .returned (.iface t q) ∧ ER Ad w9 t q w) ∧ Below w9.heap.size w9 w) := fun W' hb => (note_nil (E10.out.later hb) (en 0 0 0 0 0 0) (en_form _ _ _ _ _ _)).mono fun _ w ⟨t, q, z1, z2, z3⟩ => ⟨⟨t, q, z1, z2, hb.trans (z3.mono hb.size)⟩, hb.trans (z3.mono hb.size)⟩
            have CF : Hid (∀ W', Below w9.heap.size w9 W' → Calls Tryd.prog 20 #[.pointer none, .int .i64 0] W' fun e w => e = .returned (.int .i64 0) ∧ Below w9.heap.size w9 w) := fun W' hb => (forget_nil 0 W').mono fun _ _ ⟨z1, z2⟩ => ⟨z1, by rw [z2]; exact hb⟩
            have CL : Hid (∀ W', Below w9.heap.size w9 W' → Calls Tryd.prog 24 #[.pointer none] W' fun e w => e = .returned (.int .i64 0) ∧ Below w9.heap.size w9 w) := fun W' hb => (len_nil W').mono fun _ _ ⟨z1, z2⟩ => ⟨z1, by rw [z2]; exact hb⟩
            have CK : Hid (∀ W', Below w9.heap.size w9 W' → Calls Tryd.prog 26 #[.pointer none] W' fun e w => e = .returned (.slice none 0 0) ∧ Below w9.heap.size w9 w) := fun W' hb => (marks_nil W').mono fun _ _ ⟨z1, z2⟩ => ⟨z1, by rw [z2]; exact hb⟩
            clear GB hv9 b8 b9 E9 Z9 X8
            go_upto_region 33 with fail
            go_region_held3 (fun W' => W'.cell? ⟨1, 0, none⟩ = some (.iface 130 (.pointer (some (Ad 2)))))
              (first | exact KK.out _ (by assumption) | exact KK.out _ (Below.refl _ _).drew | exact KK.out _ (Below.refl _ _))
              (first
                | (go_at_call 11; refine (IC.out _ _ _ (by first | assumption | exact EV1.out _ (by first | assumption | exact (Below.refl _ _).drew | exact Below.refl _ _) | exact EV2.out _ (by first | assumption | exact (Below.refl _ _).drew | exact Below.refl _ _))).mono ?_; rintro e wA ⟨rfl, hbA⟩)
                | (go_at_call 12; refine (CM.out _ (by first | assumption)).mono ?_; rintro e wB ⟨⟨tB, qB, rfl, hErB⟩, hbB⟩)
                | (go_at_call 14; refine (CN.out _ (by first | assumption)).mono ?_; rintro e wC ⟨⟨tC, qC, rfl, hErC⟩, hbC⟩)
                | (go_at_call 20; refine (CF.out _ (by first | assumption)).mono ?_; rintro e wD ⟨rfl, hbD⟩)
                | (go_at_call 24; refine (CL.out _ (by first | assumption)).mono ?_; rintro e wE ⟨rfl, hbE⟩)
                | (go_at_call 26; refine (CK.out _ (by first | assumption)).mono ?_; rintro e wF ⟨rfl, hbF⟩))
            all_goals
              have BF := hid (Z10.out.trans (hbF.mono Z10.out.size))
              clear IC KK CM CN CF CL CK EV1 EV2
              go_wp2_with fail
              go_ret
              exact ⟨rfl, BF.out⟩
end Go.Proofs.YtnbgjbdbbmpoaaaDoor.Jo
