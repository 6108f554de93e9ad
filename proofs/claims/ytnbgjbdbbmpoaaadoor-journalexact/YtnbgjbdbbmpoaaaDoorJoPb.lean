/- JournalStacks. -/
import Derived.Test.YtnbgjbdbbmpoaaaDoorJoPa
namespace Go.Proofs.YtnbgjbdbbmpoaaaDoor.Jo
open Go.RowKit Go.Shelf Go.Maps
theorem Ns.lower {B B' : Nat} {W : World} {v : Value} {l : List Int} (h : Ns B W v l) (hB : B' ≤ B) : Ns B' W v l := own_lower h hB
theorem Ns.at2 {B : Nat} {W : World} {a : Option Addr} {c n : Nat} {l : List Int} (h : Ns B W (.slice a n c) l) (hn : l.length = n) {j : Nat} {x : Int} (hj : l[j]? = some x) : ∃ g, a = some ⟨g, 0, none⟩ ∧ W.cell? ⟨g, j, none⟩ = some (.int .i64 x) ∧ W.frozen? ⟨g, j, none⟩ = false := by
  subst hn
  exact h.at hj
theorem wj_spawn {W1 w : World} {jb most : Nat} {a : List (Int × List Ue)} {f : Int} {b q : Nat} (h : Wj W1 jb most (a ++ [(f, rowE b q)]) w) (m : Nat) (hm : m = b + q) (hm2 : m ≤ 1000) (hf : totP (a ++ [(f, rowE b q)]) < most) :
    Calls Tryd.prog 14 #[.pointer (some ⟨jb, 0, none⟩), .agg #[.int .i64 2, .int .i64 (m : Int), .int .i64 0, .int .i64 0, .int .i64 0, .int .i64 0, .int .i64 0, .int .i64 0, .slice none 0 0, .int .i64 0, .int .i64 0]] w fun e w' => e = .returned .nilIface ∧ Wj W1 jb most (a ++ [(f, rowE b (q + 1))]) w' ∧ St (fun k => ¬ Apu w k) w w' := by
  rw [rowE_succ, ← hm]
  exact wj_note h (sp m) (sp_ok m (by omega)) (show (1 : Int) ≤ 2 by decide) (show (2 : Int) ≤ 9 by decide) (sp_src _ m) (Nat.zero_le _) (sp_new _ m) hf
theorem Wj.num {W1 w w' : World} {jb most B : Nat} {p : List (Int × List Ue)} {v : Value} {l : List Int} (h : Wj W1 jb most p w) (hN : Ns B w v l) (hB : W1.heap.size ≤ B) (hs : St (fun x => v.ownBlock = some x) w w') : Wj W1 jb most p w' :=
  h.kept hs fun k q => by
    obtain ⟨h1, cur, h2⟩ := hN.typ q
    exact ⟨Nat.le_trans hB h1, cur, _, h2, by decide, by decide, by decide, by decide⟩
set_option maxHeartbeats 6400000 in
set_option maxRecDepth 100000 in
theorem stacks_law (W : World) (Ad : Nat → Addr) (hE : Env8 W Ad) (v0 : Value) (cs : List Int) (hC : IRow W v0 cs) (to : Int) :
    Calls Tryd.prog 4 #[v0, .int .i64 to] W fun e W' => e = .returned (.bool true) ∧ Below W.heap.size W W' := by
  have AW := hid (awake_any Ad W hE)
  have HC := hid hC
  obtain ⟨a0, c0, rfl, -⟩ := hC
  clear hE
  by_cases hlen : cs.length = 0 ∨ 20 < cs.length
  · have BW : Hid (∀ w1, Below W.heap.size W w1 → Calls Tryd.prog 9 #[.int .i64 1024] w1 fun e w => e = .returned (.tuple #[.pointer (some ⟨w1.heap.size, 0, none⟩), .nilIface]) ∧ Below W.heap.size W w) := fun w1 hb => (wj_new w1 1024 (by decide) (by decide)).mono fun _ _ q => ⟨q.1, hb.trans ((q.2.base (Nat.le_refl _)).mono hb.size)⟩
    rcases hlen with hl | hl
    · have hli : (cs.length : Int) = 0 := by omega
      go_enter Tryd.func4, Tryd.ntmps4
      go_wp2_with fail
      refine AW.out.mono ?_
      rintro e w1 ⟨rfl, b1⟩
      have B1 := hid b1
      clear AW b1
      go_wp2_with fail
      refine (BW.out _ B1.out).mono ?_
      rintro e w2 ⟨rfl, b2⟩
      have B2 := hid b2
      clear BW b2
      go_wp2_with fail
      go_ret
      exact ⟨rfl, B2.out⟩
    · have hli : 20 < (cs.length : Int) := by omega
      have hln : ¬ (cs.length : Int) = 0 := by omega
      have hne : ((cs.length : Int) == 0) = false := beq_eq_false_iff_ne.2 hln
      go_enter Tryd.func4, Tryd.ntmps4
      go_wp2_with fail
      refine AW.out.mono ?_
      rintro e w1 ⟨rfl, b1⟩
      have B1 := hid b1
      clear AW b1
      go_wp2_with fail
      refine (BW.out _ B1.out).mono ?_
      rintro e w2 ⟨rfl, b2⟩
      have B2 := hid b2
      clear BW b2
      go_wp2_with fail
      go_ret
      exact ⟨rfl, B2.out⟩
  · have h1 : 1 ≤ cs.length := by omega
    have h20 : cs.length ≤ 20 := by omega
    have hli : (cs.length : Int) ≤ 20 := by omega
    have hli1 : ¬ 20 < (cs.length : Int) := by omega
    have hln : ¬ (cs.length : Int) = 0 := by omega
    have hne : ((cs.length : Int) == 0) = false := beq_eq_false_iff_ne.2 hln
    obtain ⟨u2, kk, hkk, hu2, hr2⟩ := rem_at to cs.length (by omega)
    have hwl : IntKind.u64.wrap (cs.length : Int) = (cs.length : Int) := by
      show (cs.length : Int) % _ = _
      exact Int.emod_eq_of_lt (by omega) (by simp [IntKind.bits]; omega)
    have HU2 := hid hu2
    have HR2 := hid hr2
    clear hlen hu2 hr2
    go_enter Tryd.func4, Tryd.ntmps4
    go_wp2_with fail
    refine AW.out.mono ?_
    rintro e w1 ⟨rfl, b1⟩
    have B1 := hid b1
    have NW := hid (wj_new w1 1024 (by decide) (by decide))
    clear AW b1
    go_wp2_with fail
    refine NW.out.mono ?_
    rintro e w2 ⟨rfl, h2⟩
    have A2 := hid (h2.later (bAl w2 (.cells #[] 3)))
    have N2 := hid ((ns_new w2).lower (h2.base (Nat.le_refl _)).size)
    clear NW h2
    go_wp2_with fail
    go_loopg [7, 8, 9, 10] cs.length (fun gh s7 s8 s9 _ wr => ∃ (k : Nat) (av : Option Addr) (cv : Nat), k ≤ cs.length ∧ gh = cs.length - k ∧ s9 = .int .i64 (k : Int) ∧ s7 = .int .i64 (gN cs k : Int) ∧ s8 = .slice av k cv ∧ Hid (Wj w1 w1.heap.size 1024 (stF 10 cs k) wr) ∧ Hid (Ns w1.heap.size wr (.slice av k cv) (bgF cs k)))
    case atStart => exact ⟨0, _, _, Nat.zero_le _, rfl, rfl, rfl, rfl, A2.out, N2.out⟩
    case round =>
      clear A2 N2
      rename World => wr
      obtain ⟨k, av, cv, hk, rfl, rfl, rfl, rfl, HA, HN⟩ := hrel
      by_cases hlt : k < cs.length
      · have hki : (k : Int) < (cs.length : Int) := by omega
        have hg := gN_le cs k
        have hmul : IntKind.i64.wrap (10 * (k : Int)) = 10 * (k : Int) := wrap_mid (by omega) (by omega)
        obtain ⟨x, hx⟩ := at_lt cs k hlt
        have hxd : cs[k]?.getD 0 = x := by rw [hx]; rfl
        obtain ⟨b, o, rfl, -⟩ := HC.out.at hx
        have CC : Hid (∀ wz, Below w1.heap.size w1 wz → wz.cell? ⟨b, o + k, none⟩ = some (.int .i64 x)) := fun wz hb => by
          obtain ⟨b', o', e, d⟩ := (HC.out.later (B1.out.trans (hb.mono B1.out.size))).at hx
          obtain ⟨rfl, rfl⟩ : b = b' ∧ o = o' := by simpa using e
          exact d
        obtain ⟨u, hu, hr⟩ := cq_at x
        have hc := cq_lt x
        have GM := hid (wj_mark HA.out (10 * (k : Int)) (by omega) (by omega) (stF_above (by decide) cs k))
        have hNl : (bgF cs k).length ≤ 10000000 := by rw [bgF_len]; omega
        have HNL := hid hNl
        have HX := hid hxd
        clear hNl hxd hx
        go_wp2_with fail
        refine GM.out.mono ?_
        rintro e w3 ⟨rfl, h3, s3⟩
        have A3 := hid h3
        have N3 := hid (HN.out.apt s3)
        have Z3 := hid (h3.base (Nat.le_refl _)).size
        clear GM h3 s3 HA HN
        go_wp2_with (at_builtin; refine wpList_num rfl _ _ rfl (k := (gN cs k : Int)) N3.out HNL.out Z3.out rfl rfl ?_; intro v' w4 hN hS; obtain ⟨av', cv', rfl⟩ := hN.out.slice)
        have A4 := hid (A3.out.num N3.out (Nat.le_refl _) hS.out)
        have N4 : Hid (Ns w1.heap.size w4 (.slice av' (k + 1) cv') (bgF cs (k + 1))) := by
          show Ns _ _ _ _
          have := hN.out
          rw [← bgF_succ, bgF_len] at this
          exact this
        have el : (bgF cs k ++ [(gN cs k : Int)]).length = k + 1 := by rw [← bgF_succ, bgF_len]
        have el2 : (bgF cs k).length + 1 = k + 1 := by rw [bgF_len]
        first | rw [el] | rw [el2]
        clear hN hS A3 N3 Z3 HNL el el2
        obtain ⟨c, hcd⟩ : ∃ c, cq x = c := ⟨_, rfl⟩
        rw [hcd] at hr hc
        have hci : (c : Int) ≤ 20 := by omega
        have HCD := hid hcd
        clear hcd
        go_loopg [7, 10] c (fun gh s7 s10 wz => ∃ q m : Nat, q ≤ c ∧ gh = c - q ∧ s10 = .int .i64 (q : Int) ∧ s7 = .int .i64 (m : Int) ∧ Hid (m = gN cs k + q) ∧ Hid (Wj w1 w1.heap.size 1024 (stF 10 cs k ++ [(10 * (k : Int), rowE (gN cs k) q)]) wz) ∧ Hid (Ns w1.heap.size wz (.slice av' (k + 1) cv') (bgF cs (k + 1))))
        case atStart => exact ⟨0, gN cs k, Nat.zero_le _, rfl, rfl, rfl, rfl, A4.out, N4.out⟩
        case round =>
          clear A4 N4
          rename World => wz
          obtain ⟨q, m, hq, rfl, rfl, rfl, HM, HA, HN⟩ := hrel
          have d0 := CC.out wz (HA.out.base (Nat.le_refl _))
          by_cases hqc : q < c
          · have hqi : (q : Int) < (c : Int) := by omega
            have hmi : (m : Int) ≤ 1000 := by have := HM.out; omega
            have GN := hid (wj_spawn HA.out m HM.out (by omega) (by rw [totP_snoc, stF_tot, rowE_len]; omega))
            go_wp2_with fail
            refine GN.out.mono ?_
            rintro e w5 ⟨rfl, h5, s5⟩
            have A5 := hid h5
            have N5 := hid (HN.out.apu s5)
            clear GN h5 s5 HA HN d0
            go_wp2_with fail
            go_roundg (c - (q + 1))
            case measure => omega
            case rel => exact ⟨q + 1, m + 1, by omega, rfl, by go_num, by go_num, by have := HM.out; show _ = _; omega, A5.out, N5.out⟩
          · obtain rfl : q = c := by omega
            have hqi : ¬ (q : Int) < (q : Int) := by omega
            have A6 : Hid (Wj w1 w1.heap.size 1024 (stF 10 cs (k + 1)) wz) := by
              show Wj _ _ _ _ _
              rw [stF_succ, HX.out, HCD.out]
              exact HA.out
            have hm2 : m = gN cs (k + 1) := by
              rw [HM.out, ← HCD.out, ← HX.out]
              rfl
            clear HA HM
            subst hm2
            go_wp2_with fail
            go_roundg (cs.length - (k + 1))
            case measure => omega
            case rel => exact ⟨k + 1, av', cv', by omega, rfl, by go_num, rfl, rfl, A6.out, HN.out⟩
      · obtain rfl : k = cs.length := by omega
        have hki : ¬ (cs.length : Int) < (cs.length : Int) := by omega
        have hu2 := HU2.out
        have hr2 := HR2.out
        have hkki : (kk : Int) ≤ 20 := by omega
        have hmul : IntKind.i64.wrap (10 * (kk : Int)) = 10 * (kk : Int) := wrap_mid (by omega) (by omega)
        have hmono := gN_mono cs (show kk ≤ cs.length by omega)
        have hgle := gN_le cs cs.length
        obtain ⟨L, hL⟩ : ∃ L, gN cs cs.length = gN cs kk + L := ⟨gN cs cs.length - gN cs kk, by omega⟩
        have hbel : belowP (stF 10 cs cs.length) (10 * (kk : Int)) = kk := by rw [stF_below (by decide)]; omega
        have hacc : accPl ((stF 10 cs cs.length).drop kk) = (rowE (gN cs kk) L).reverse := by rw [stF_acc 10 cs (by omega)]; congr 2; omega
        have GS := hid (wj_since HA.out (by rw [stF_len]; omega) (10 * (kk : Int)) (stF_marked 10 cs hkk))
        rw [hbel, hacc] at GS
        obtain ⟨n1, hn1⟩ : ∃ n1, gN cs cs.length = n1 := ⟨_, rfl⟩
        obtain ⟨n0, hn0⟩ : ∃ n0, gN cs kk = n0 := ⟨_, rfl⟩
        have hbn : n0 ≤ n1 ∧ n1 ≤ 400 ∧ n1 = n0 + L := by omega
        rw [hn0] at hacc GS
        rw [hn1]
        have HBN := hid hbn
        have HN0 := hid hn0
        have hn1i : (n1 : Int) ≤ 400 := by omega
        have hn0i : (n0 : Int) ≤ 400 := by omega
        clear hL hmono hgle hn0 hn1 hbn
        have HBL := hid hbel
        have HAC := hid hacc
        clear hbel hacc
        go_wp2_with fail
        refine GS.out.mono ?_
        rintro e w5 ⟨lv, l, rfl, hu5, hl5, hb5⟩
        obtain ⟨al, cl, rfl⟩ := hu5.form
        have hll : l.length = L := by have := congrArg List.length hl5; simpa [rowE_len] using this
        have U5 := hid hu5
        have L5 := hid hl5
        have A5 := hid (HA.out.later hb5)
        have N5 := hid (HN.out.later hb5)
        have GB := hid (wj_back A5.out (by rw [stF_len]; omega) (10 * (kk : Int)) (stF_marked 10 cs hkk))
        rw [HBL.out, HAC.out, stF_take 10 cs (by omega)] at GB
        rw [hll]
        clear GS hu5 hl5 hb5 HA HN HBL HAC hu2 hr2 HU2 HR2
        go_wp2_with fail
        refine GB.out.mono ?_
        rintro e w6 ⟨mv, m, rfl, hu6, hl6, h6, s6⟩
        obtain ⟨am, cm, rfl⟩ := hu6.form
        have hml : m.length = L := by have := congrArg List.length hl6; simpa [rowE_len] using this
        have U6 := hid hu6
        have A6 := hid h6
        have V6 := hid (U5.out.apt s6)
        have N6 := hid (N5.out.apt s6)
        have L6 := hid (L5.out.trans hl6.symm)
        rw [hml]
        obtain ⟨gb, hgb, -⟩ : ∃ g, av = some ⟨g, 0, none⟩ ∧ True := by
          obtain ⟨g, e, -⟩ := N6.out.at2 (bgF_len cs _) ((bgF_at cs hkk).trans (by rw [HN0.out]))
          exact ⟨g, e, trivial⟩
        subst hgb
        have KK : Hid (∀ W', Below w6.heap.size w6 W' → W'.cell? ⟨gb, kk, none⟩ = some (.int .i64 (n0 : Int))) := fun W' hb => by
          obtain ⟨g, e, d, -⟩ := (N6.out.later hb).at2 (bgF_len cs _) ((bgF_at cs hkk).trans (by rw [HN0.out]))
          obtain rfl : gb = g := by simpa using e
          exact d
        have hps : ∀ u ∈ l, u.ps.length ≤ 1000 := by
          intro u hu
          have h0 : u.bare ∈ (rowE (n0) L).reverse := by rw [← L5.out]; exact List.mem_map_of_mem hu
          simp only [List.mem_reverse, rowE, List.mem_map] at h0
          obtain ⟨t, -, e⟩ := h0
          have : u.ps = [] := by have := congrArg Ue.ps e; exact this.symm
          rw [this]; decide
        have hll0 := hll
        subst hll
        have CA : Hid (∀ W', Below w6.heap.size w6 W' → Calls Tryd.prog 22 #[.slice al l.length cl, .slice am l.length cm] W' fun e w => e = .returned (.bool true) ∧ Below w6.heap.size w6 w) := fun W' hb => by
          have h6' := U6.out.later hb
          rw [hml] at h6'
          exact (alike_any W' _ _ l m (V6.out.later hb) h6' L6.out (by have := HBN.out; omega) hps).mono fun _ _ q => ⟨q.1, hb.trans (q.2.mono hb.size)⟩
        have CL : Hid (∀ W', Below w6.heap.size w6 W' → Calls Tryd.prog 24 #[.pointer (some ⟨w1.heap.size, 0, none⟩)] W' fun e w => e = .returned (.int .i64 (n0 : Int)) ∧ Below w6.heap.size w6 w) := fun W' hb => by
          refine (wj_len (A6.out.later hb)).mono ?_
          rintro e w ⟨rfl, rfl⟩
          exact ⟨by rw [totP_snoc, stF_tot, HN0.out]; rfl, hb⟩
        have CM : Hid (∀ W', Below w6.heap.size w6 W' → Calls Tryd.prog 26 #[.pointer (some ⟨w1.heap.size, 0, none⟩)] W' fun e w => (∃ a c, e = .returned (.slice a (kk + 1) c)) ∧ Below w6.heap.size w6 w) := fun W' hb => by
          refine (wj_marks (A6.out.later hb) (by simp [stF_len]; omega)).mono ?_
          rintro e w ⟨v, rfl, hv, hb2⟩
          obtain ⟨a, c, rfl⟩ := hv.slice
          exact ⟨⟨a, c, by simp [stF_len]⟩, hb.trans (hb2.mono hb.size)⟩
        have hsub2 : (n1 : Int) - (n0 : Int) = (l.length : Int) := by have := HBN.out; omega
        have hwL : IntKind.i64.wrap (l.length : Int) = (l.length : Int) := wrap_mid (by omega) (by have := HBN.out; omega)
        have hwk : IntKind.i64.wrap ((kk : Int) + 1) = (kk : Int) + 1 := wrap_mid (by omega) (by omega)
        have hk1 : ((kk + 1 : Nat) : Int) = (kk : Int) + 1 := by omega
        have hkn : kk < cs.length := hkk
        clear GB hu6 hl6 h6 s6 U5 N5 A5 hps
        go_upto_region 23 with fail
        go_region_held3 (fun W' => W'.cell? ⟨gb, kk, none⟩ = some (.int .i64 (n0 : Int)))
          (first | exact KK.out _ (by assumption) | exact KK.out _ (Below.refl _ _).drew | exact KK.out _ (Below.refl _ _))
          (first
            | (go_at_call 22; refine (CA.out _ (by first | assumption | exact (Below.refl _ _).drew | exact Below.refl _ _)).mono ?_; rintro e w9 ⟨rfl, hb9⟩)
            | (go_at_call 24; refine (CL.out _ (by first | assumption)).mono ?_; rintro e w10 ⟨rfl, hb10⟩)
            | (go_at_call 26; refine (CM.out _ (by first | assumption)).mono ?_; rintro e w11 ⟨⟨am2, cm2, rfl⟩, hb11⟩))
        all_goals
          have HB11 := hid hb11
          clear KK CA CL CM hsub2 hwL hwk hk1 hb9 hb10 hb11
          have V7 := hid (V6.out.later HB11.out)
          have A7 := hid (A6.out.later HB11.out)
          have hLi : (l.length : Int) ≤ 400 := by have := HBN.out; omega
          clear V6 A6 U6 N6 L6
          go_wp2_with fail
          go_loopg [16] l.length (fun gh s16 wy => ∃ i : Nat, i ≤ l.length ∧ gh = l.length - i ∧ s16 = .int .i64 (i : Int) ∧ Hid (Below w11.heap.size w11 wy))
          case atStart => exact ⟨0, Nat.zero_le _, rfl, rfl, Below.refl _ _⟩
          case round =>
            rename World => wy
            obtain ⟨i, hi, rfl, rfl, HY⟩ := hrel
            by_cases hil : i < l.length
            · have hii : (i : Int) < (l.length : Int) := by omega
              obtain ⟨u, hu⟩ := at_lt l i hil
              have hid1 : u.id = (n1 : Int) - 1 - (i : Int) := by
                have e1 : (l.map Ue.bare)[i]? = some u.bare := by simp [hu]
                rw [L5.out, rowE_rev hil] at e1
                have e3 : sp (n0 + (l.length - 1 - i)) = u.bare := by simpa using e1
                have e2 : (sp (n0 + (l.length - 1 - i))).id = u.id := by have e4 := congrArg Ue.id e3; exact e4
                rw [← e2]
                have := HBN.out
                simp only [sp, en]
                omega
              obtain ⟨g, rfl, el, -⟩ := (V7.out.later HY.out).el hu
              have d1 : wy.cell? ⟨g, i * 11 + 1, none⟩ = some (.int .i64 ((n1 : Int) - 1 - (i : Int))) := by rw [← hid1]; exact el.2.1
              have s1 : IntKind.i64.wrap ((n1 : Int) - 1) = (n1 : Int) - 1 := wrap_mid (by omega) (by omega)
              have s2 : IntKind.i64.wrap ((n1 : Int) - 1 - (i : Int)) = (n1 : Int) - 1 - (i : Int) := wrap_mid (by omega) (by omega)
              clear hu hid1 el
              go_wp2_with fail
              go_roundg (l.length - (i + 1))
              case measure => omega
              case rel => exact ⟨i + 1, by omega, rfl, by go_num, HY.out⟩
            · obtain rfl : i = l.length := by omega
              have hii : ¬ (l.length : Int) < (l.length : Int) := by omega
              have A8 := hid (A7.out.later HY.out)
              have hbel : belowP (stF 10 cs kk ++ [(10 * (kk : Int), [])]) (10 * (kk : Int)) = kk := by rw [belowP_snoc, stF_below (by decide)]; simp
              have hacc : accPl ((stF 10 cs kk ++ [(10 * (kk : Int), [])]).drop kk) = [] := by
                rw [List.drop_append_of_le_length (by rw [stF_len]; omega), List.drop_of_length_le (by rw [stF_len]; omega)]
                rfl
              have GS := hid (wj_since A8.out (by simp [stF_len]; omega) (10 * (kk : Int)) (by unfold markedP; simp))
              rw [hbel, hacc] at GS
              clear hbel hacc A7 V7
              go_wp2_with fail
              refine GS.out.mono ?_
              rintro e w12 ⟨lv2, l2, rfl, hu12, hl12, hb12⟩
              obtain ⟨al2, cl2, rfl⟩ := hu12.form
              obtain rfl : l2 = [] := by simpa using hl12
              have BF := hid (B1.out.trans (((A8.out.later hb12).base (Nat.le_refl _)).mono B1.out.size))
              clear GS A8 hu12 hl12 hb12
              go_wp2_with fail
              go_ret
              exact ⟨rfl, BF.out⟩
end Go.Proofs.YtnbgjbdbbmpoaaaDoor.Jo
