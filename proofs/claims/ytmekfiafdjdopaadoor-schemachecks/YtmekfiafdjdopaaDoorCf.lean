/- SchemaChecks: the walk. -/
import Derived.Test.YtmekfiafdjdopaaDoorCe
namespace Go.Proofs.YtmekfiafdjdopaaDoor
open Go.RowKit Go.Shelf
attribute [local go_sem ↓] Go.wp_at_zero Go.wp_at_succ
theorem Below.drewN {B : Nat} {w w' : World} (h : Below B w w') (n : Nat) : Below B w (w'.drewN n) := h.trans ⟨rfl, rfl, rfl, Nat.le_refl _, fun _ _ => rfl⟩
set_option maxHeartbeats 8000000 in
set_option maxRecDepth 100000 in
theorem checks_law (Ad : Nat → Addr) (w : World) (va vb : Value) (cs : List Cmp) (rs : List Rsc) (s : ByteArray) (n : Int) (hE : Env w Ad) (hC : CmpRow w va cs) (hQ : RscRow w vb rs) :
    Calls Tryd.prog 3 #[.agg #[va, vb], .string s, .int .i64 n] w fun e w' => e = .returned (.bool true) ∧ Below w.heap.size w w' := by
  have HC := hid hC
  have HQ := hid hQ
  have HE := hid hE
  obtain ⟨a, c, rfl, hcap, hlay⟩ := hC
  obtain ⟨a', c', rfl, hcap', -⟩ := hQ
  have HL := hid hlay
  obtain ⟨x0, x1⟩ := cell_new2 w (.slice a cs.length c) (.slice a' rs.length c') 25
  have B0 : Hid (Below w.heap.size w (w.alloc (.cells #[.slice a cs.length c, .slice a' rs.length c'] 25))) := (Below.refl _ _).alloc (Nat.le_refl _) _
  have X0 := hid x0
  have X1 := hid x1
  have AC := hid (awake_any _ Ad (hE.later B0.out))
  clear hE x0 x1 hlay hcap hcap'
  go_enter Tryd.func3, Tryd.ntmps3
  go_wp2_with fail
  refine AC.out.mono ?_
  rintro e w1 ⟨rfl, hb1⟩
  have B1 := hid (B0.out.trans (hb1.mono B0.out.size))
  have x0 := Below.seen hb1 (Nat.le_refl _) X0.out
  have x1 := Below.seen hb1 (Nat.le_refl _) X1.out
  have GC := hid (great_any w1 _ _ cs rs (HC.out.later B1.out) (HQ.out.later B1.out))
  clear hb1 AC X0 X1
  go_wp2_with fail
  refine GC.out.mono ?_
  rintro e w2 ⟨⟨g, rfl, hsm⟩, hb2⟩
  have B2 := hid (B1.out.trans (hb2.mono B1.out.size))
  have x0 := Below.seen hb2 (Nat.le_refl _) x0
  have x1 := Below.seen hb2 (Nat.le_refl _) x1
  have X0 := hid x0
  have X1 := hid x1
  clear GC hb2
  cases g with
  | true =>
    clear hsm
    go_wp2_with fail
    go_ret
    exact ⟨rfl, B2.out⟩
  | false =>
    have HS := hid (hsm rfl)
    have h40 : cs.length ≤ 40 := HS.out.1.1
    have h40' : rs.length ≤ 40 := HS.out.2.1
    have h40i : (cs.length : Int) ≤ 40 := by omega
    have h40i' : (rs.length : Int) ≤ 40 := by omega
    clear hsm
    by_cases hbig : 100 < s.size
    · have hbi : (100 : Int) < (s.size : Int) := by omega
      go_wp2_with fail
      go_ret
      exact ⟨rfl, B2.out⟩
    · have hbi : ¬ ((100 : Int) < (s.size : Int)) := by omega
      have hs0 : (0 : Int) ≤ (s.size : Int) := by omega
      have hsk : s.size ≤ 1000 := by omega
      obtain ⟨ok, hll⟩ := checkL_ok cs rs h40 h40'
      have OK := hid ok
      have HLL := hid hll
      have K1 := hid (check_any Ad w2 _ _ cs rs (HE.out.later B2.out) (HC.out.later B2.out) (HQ.out.later B2.out) HS.out.1 HS.out.2)
      clear ok hll
      go_wp2_with fail
      refine K1.out.mono ?_
      rintro e w3 ⟨v3, rfl, t3, hb3⟩
      have B3 := hid (B2.out.trans (hb3.mono B2.out.size))
      have B23 := hid hb3
      have T3 := hid t3
      have L1 := hid (leaves_any Ad v3 (checkL cs rs) 3 w3 (HE.out.later B3.out) t3.tr (by omega) OK.out (by have := HLL.out; omega))
      clear hb3 t3 K1
      go_wp2_with fail
      refine L1.out.mono ?_
      rintro e w4 ⟨lv, rfl, ho4, hb4⟩
      have B4 := hid (B3.out.trans (hb4.mono B3.out.size))
      have B24 := hid (B23.out.trans (hb4.mono B23.out.size))
      have O4 := hid ho4
      have x0 := Below.seen B24.out (Nat.le_refl _) X0.out
      have x1 := Below.seen B24.out (Nat.le_refl _) X1.out
      have M1 := hid (rcheck_any w4 _ _ cs rs (HC.out.later B4.out) (HQ.out.later B4.out) HS.out.1 HS.out.2)
      clear hb4 L1
      go_wp2_with fail
      refine M1.out.mono ?_
      rintro e w5 ⟨mv, rfl, ho5, hb5⟩
      have B5 := hid (B4.out.trans (hb5.mono B4.out.size))
      have B25 := hid (B24.out.trans (hb5.mono B24.out.size))
      have O4' := hid (own_more O4.out hb5)
      have O5 := hid ho5
      obtain ⟨xa, xc, rfl⟩ := own_slice ho4
      obtain ⟨ya, yc, rfl⟩ := own_slice ho5
      obtain ⟨ls, hls⟩ : ∃ ls, ls = checkL cs rs := ⟨_, rfl⟩
      rw [← hls] at O4' O5 T3 HLL ⊢
      have hl200 : ls.length ≤ 200 := HLL.out
      have hl200i : (ls.length : Int) ≤ 200 := by omega
      clear hls ho4 ho5 hb5 M1 O4 HLL OK x0 x1
      go_upto_region 8 with fail
      go_cut [48] (fun s48 wx => s48 = .bool false ∧ wx = w5)
      case first =>
        by_cases hnil : ls = []
        · have t3 := T3.out
          rw [hnil] at t3
          obtain rfl := top_nil t3
          have hz : ((ls.length : Int) == 0) = true := by rw [hnil]; rfl
          clear hnil t3 T3
          go_wp2_with fail
          go_meet
          exact ⟨rfl, rfl⟩
        · obtain ⟨t, q, rfl⟩ := top_some T3.out hnil
          have hz : ((ls.length : Int) == 0) = false := by
            have : 0 < ls.length := List.length_pos_iff.2 hnil
            have : ¬ ((ls.length : Int) = 0) := by omega
            simpa using this
          clear hnil T3
          go_wp2_with fail
          go_meet
          exact ⟨rfl, rfl⟩
      case rest =>
        obtain ⟨rfl, rfl⟩ := hcut
        go_wp2_with fail
        go_loopg [10] ls.length (fun gh s10 wx => ∃ k : Nat, k ≤ ls.length ∧ gh = ls.length - k ∧ s10 = .int .i64 (k : Int) ∧ Hid (Below wc.heap.size wc wx))
        case atStart => exact ⟨0, Nat.zero_le _, rfl, rfl, Below.refl _ _⟩
        case round =>
          rename World => wq
          obtain ⟨k, hk, rfl, rfl, HB⟩ := hrel
          by_cases hlt : k < ls.length
          · have hki : (k : Int) < (ls.length : Int) := by omega
            obtain ⟨p, hp⟩ := at_lt ls k hlt
            obtain ⟨e1, e2⟩ := leafCells_at ls k p hp
            obtain ⟨g3, d3, f3, -, hg3⟩ := World.ownsRow.form O4'.out (by omega)
            obtain ⟨g5, d5, f5, -, hg5⟩ := World.ownsRow.form O5.out (by omega)
            have O3x := O4'.out
            have O5x := O5.out
            rw [f3] at O3x
            rw [f5] at O5x
            have c1 : wq.cell? ⟨g3, k * 2, none⟩ = some (.string (joinB p.1)) := (HB.out.cell (p := ⟨g3, k * 2, none⟩) hg3).trans ((O3x.cellAt (k * 2) (by omega)).trans e1)
            have c2 : wq.cell? ⟨g3, k * 2 + 1, none⟩ = some (.int .i64 (p.2 : Int)) := (HB.out.cell (p := ⟨g3, k * 2 + 1, none⟩) hg3).trans ((O3x.cellAt (k * 2 + 1) (by omega)).trans e2)
            have c3 : wq.cell? ⟨g5, k * 2, none⟩ = some (.string (joinB p.1)) := (HB.out.cell (p := ⟨g5, k * 2, none⟩) hg5).trans ((O5x.cellAt (k * 2) (by omega)).trans e1)
            have c4 : wq.cell? ⟨g5, k * 2 + 1, none⟩ = some (.int .i64 (p.2 : Int)) := (HB.out.cell (p := ⟨g5, k * 2 + 1, none⟩) hg5).trans ((O5x.cellAt (k * 2 + 1) (by omega)).trans e2)
            obtain ⟨rfl, rfl⟩ : xa = some ⟨g3, 0, none⟩ ∧ xc = d3 := by simpa using f3
            obtain ⟨rfl, rfl⟩ : ya = some ⟨g5, 0, none⟩ ∧ yc = d5 := by simpa using f5
            clear O3x O5x f3 f5 e1 e2 hp
            generalize joinB p.1 = y at *
            go_wp2_with fail
            go_quiet (fail)
            go_wp2_with fail
            go_roundg (ls.length - (k + 1))
            case measure => omega
            case rel => exact ⟨k + 1, by omega, rfl, by go_num, Below.drewN HB.out _⟩
          · have hki : ¬ ((k : Int) < (ls.length : Int)) := by omega
            have B6 := hid (B5.out.trans (HB.out.mono B5.out.size))
            have D6 := hid (B25.out.trans (HB.out.mono B25.out.size))
            have x0 := Below.seen D6.out (Nat.le_refl _) X0.out
            have x1 := Below.seen D6.out (Nat.le_refl _) X1.out
            obtain ⟨n1, b1, hv1, -, -⟩ := foundV_form (firstI s (cs.map Cmp.s) 0)
            obtain ⟨n2, b2, hv2, -, -⟩ := foundV_form (firstI s (rs.map Rsc.s) 0)
            have V1 := hid hv1
            have V2 := hid hv2
            clear O4' O5 HB hv1 hv2
            have F1 := hid (find_any wq (.slice a cs.length c) (.slice a' rs.length c') ⟨_, _, _, rfl⟩ cs (HC.out.later B6.out) (by omega) s)
            rw [V1.out] at F1
            go_wp2_with fail
            refine F1.out.mono ?_
            rintro e w7 ⟨rfl, hb⟩
            have B7 := hid (B6.out.trans (hb.mono B6.out.size))
            have D7 := hid (D6.out.trans (hb.mono D6.out.size))
            have x0 := Below.seen D7.out (Nat.le_refl _) X0.out
            have x1 := Below.seen D7.out (Nat.le_refl _) X1.out
            clear hb F1
            have F2 := hid (rfind_any w7 (.slice a cs.length c) (.slice a' rs.length c') cs (HC.out.later B7.out) (by omega) s)
            rw [V1.out] at F2
            go_wp2_with fail
            refine F2.out.mono ?_
            rintro e w8 ⟨rfl, hb⟩
            have B8 := hid (B7.out.trans (hb.mono B7.out.size))
            have D8 := hid (D7.out.trans (hb.mono D7.out.size))
            have x0 := Below.seen D8.out (Nat.le_refl _) X0.out
            have x1 := Below.seen D8.out (Nat.le_refl _) X1.out
            clear hb F2
            have F3 := hid (resource_any w8 (.slice a cs.length c) (.slice a' rs.length c') ⟨_, _, _, rfl⟩ rs (HQ.out.later B8.out) (by omega) s)
            rw [V2.out] at F3
            go_wp2_with fail
            refine F3.out.mono ?_
            rintro e w9 ⟨rfl, hb⟩
            have B9 := hid (B8.out.trans (hb.mono B8.out.size))
            have D9 := hid (D8.out.trans (hb.mono D8.out.size))
            have x0 := Below.seen D9.out (Nat.le_refl _) X0.out
            have x1 := Below.seen D9.out (Nat.le_refl _) X1.out
            clear hb F3
            have F4 := hid (rresource_any w9 (.slice a cs.length c) (.slice a' rs.length c') rs (HQ.out.later B9.out) (by omega) s)
            rw [V2.out] at F4
            go_wp2_with fail
            refine F4.out.mono ?_
            rintro e w10 ⟨rfl, hb⟩
            have B10 := hid (B9.out.trans (hb.mono B9.out.size))
            have D10 := hid (D9.out.trans (hb.mono D9.out.size))
            have x0 := Below.seen D10.out (Nat.le_refl _) X0.out
            have x1 := Below.seen D10.out (Nat.le_refl _) X1.out
            clear hb F4
            have F5 := hid (new_any Ad w10 (HE.out.later B10.out) (.slice a cs.length c) (.slice a' rs.length c') ⟨_, _, _, rfl⟩ cs (HC.out.later B10.out) (by omega) n 9)
            go_wp2_with fail
            refine F5.out.mono ?_
            rintro e w11 ⟨z0, z1, z2, z3, z4, z5, fv, rfl, HN, hb⟩
            have B11 := hid (B10.out.trans (hb.mono B10.out.size))
            have D11 := hid (D10.out.trans (hb.mono D10.out.size))
            clear hb F5 V1 V2
            obtain ⟨wa, hwa⟩ : ∃ wa, wa = w11.alloc (.cells #[.int .i64 z0, .int .i64 z1, .int .i64 z2, .int .i64 z3, .int .i64 z4, .int .i64 z5] 42) := ⟨_, rfl⟩
            obtain ⟨gp, hgp⟩ : ∃ gp, gp = w11.heap.size := ⟨_, rfl⟩
            have C6 : Hid (∀ W, Below wa.heap.size wa W → W.cell? ⟨gp, 0, none⟩ = some (.int .i64 z0) ∧ W.cell? ⟨gp, 1, none⟩ = some (.int .i64 z1) ∧ W.cell? ⟨gp, 2, none⟩ = some (.int .i64 z2) ∧ W.cell? ⟨gp, 3, none⟩ = some (.int .i64 z3) ∧ W.cell? ⟨gp, 4, none⟩ = some (.int .i64 z4) ∧ W.cell? ⟨gp, 5, none⟩ = some (.int .i64 z5)) := by
              intro W hb
              rw [hwa] at hb
              rw [hgp]
              exact cells6 w11 z0 z1 z2 z3 z4 z5 W hb
            have BA : Hid (Below w11.heap.size w11 wa) := by rw [hwa]; exact (Below.refl _ _).alloc (Nat.le_refl _) _
            have B12 := hid (B11.out.trans (BA.out.mono B11.out.size))
            have D12 := hid (D11.out.trans (BA.out.mono D11.out.size))
            clear x0 x1
            go_upto_region 20 with fail
            rw [← hwa, ← hgp]
            clear hwa hgp
            have x0 := Below.seen D12.out (Nat.le_refl _) X0.out
            have x1 := Below.seen D12.out (Nat.le_refl _) X1.out
            go_cut [117] (fun s117 wx => s117 = .bool (decide (n < 0 ∨ (cs.length : Int) ≤ n)) ∧ wx = wa)
            case first =>
              by_cases h1 : n < 0
              · have hd : Hid (decide (n < 0 ∨ (cs.length : Int) ≤ n) = true) := decide_eq_true (.inl h1)
                go_wp2_with fail
                go_meet
                exact ⟨by rw [hd.out], rfl⟩
              · by_cases h2 : (cs.length : Int) ≤ n
                · have hd : Hid (decide (n < 0 ∨ (cs.length : Int) ≤ n) = true) := decide_eq_true (.inr h2)
                  go_wp2_with fail
                  go_meet
                  exact ⟨by rw [hd.out], rfl⟩
                · have hd : Hid (decide (n < 0 ∨ (cs.length : Int) ≤ n) = false) := decide_eq_false (by omega)
                  go_wp2_with fail
                  go_meet
                  exact ⟨by rw [hd.out], rfl⟩
            case rest =>
              obtain ⟨rfl, hw⟩ := hcut
              rw [hw]
              clear hw
              go_upto_if 117 with fail
              go_cut [] (fun wx => Below wa.heap.size wa wx)
              case first =>
                rcases HN.out with ⟨hout, rfl, rfl, rfl, rfl, rfl, rfl, rfl⟩ | ⟨m, x, rfl, hx, rfl, rfl, rfl, rfl, rfl, rfl, rfl⟩
                · rw [decide_eq_true hout]
                  clear hout HN
                  have g1 : wa.cell? ⟨0, 0, none⟩ = some (.iface 147 (.pointer (some (Ad 1)))) := (HE.out.later B12.out).cell 1 (by decide) (by decide)
                  have I1 := hid (is_top Ad 1 0 (.iface 147 (.pointer (some (Ad 1)))) [([], 1)] wa (HE.out.later B12.out) (.one _ _ (sent_chn Ad _ 1 _ (by decide))) (by simp) (by decide))
                  have q := neqP 0 0 0 0 0 0
                  go_wp2_with fail
                  refine I1.out.mono ?_
                  rintro e w13 ⟨he, b13⟩
                  obtain rfl : e = .returned (.bool true) := he
                  obtain ⟨p0, p1, p2, p3, p4, p5⟩ := C6.out w13 b13
                  have B13 := hid b13
                  clear b13 I1 g1 x0 x1
                  go_wp2_with fail
                  go_meet
                  exact B13.out
                · have hm := (List.getElem?_eq_some_iff.1 hx).1
                  rw [decide_eq_false (show ¬ ((m : Int) < 0 ∨ (cs.length : Int) ≤ (m : Int)) by omega)]
                  have hmi : (m : Int) < (cs.length : Int) := by omega
                  obtain ⟨b, o, rfl, hc⟩ : ∃ b o, a = some ⟨b, o, none⟩ ∧ ∀ (j : Nat) (x : Cmp), cs[j]? = some x → w.cell? ⟨b, o + j * 7, none⟩ = some (.string x.s) ∧ w.cell? ⟨b, o + j * 7 + 1, none⟩ = some (.int .i64 x.wd) ∧ w.cell? ⟨b, o + j * 7 + 2, none⟩ = some (.bool x.rb) ∧ w.cell? ⟨b, o + j * 7 + 3, none⟩ = some (.int .i64 x.d0) ∧ w.cell? ⟨b, o + j * 7 + 4, none⟩ = some (.int .i64 x.d1) ∧ w.cell? ⟨b, o + j * 7 + 5, none⟩ = some (.int .i64 x.d2) ∧ w.cell? ⟨b, o + j * 7 + 6, none⟩ = some (.int .i64 x.d3) := by
                    rcases HL.out with h | h
                    · rw [h] at hx; simp at hx
                    · exact h
                  obtain ⟨-, -, -, c3, c4, c5, c6⟩ := hc m x hx
                  have c3 := Below.seen B12.out (Nat.le_refl _) c3
                  have c4 := Below.seen B12.out (Nat.le_refl _) c4
                  have c5 := Below.seen B12.out (Nat.le_refl _) c5
                  have c6 := Below.seen B12.out (Nat.le_refl _) c6
                  obtain ⟨p0, p1, p2, p3, p4, p5⟩ := C6.out wa (Below.refl _ _)
                  have q := neqP (m : Int) x.d0 x.d1 x.d2 x.d3 9
                  clear hc hx HN
                  go_wp2_with fail
                  go_quiet (fail)
                  go_wp2_with fail
                  go_meet
                  exact Below.drewN (Below.refl _ _) _
              case rest =>
                have BC := hid hcut
                have B14 := hid (B12.out.trans (hcut.mono B12.out.size))
                have D14 := hid (D12.out.trans (hcut.mono D12.out.size))
                clear hcut x0 x1 BC C6 HN
                have KK : Hid (∀ W', Below wc.heap.size wc W' → W'.cell? ⟨w.heap.size, 0, none⟩ = some (.slice a cs.length c) ∧ W'.cell? ⟨w.heap.size, 1, none⟩ = some (.slice a' rs.length c')) := fun W' hb => ⟨Below.seen (D14.out.trans (hb.mono D14.out.size)) (Nat.le_refl _) X0.out, Below.seen (D14.out.trans (hb.mono D14.out.size)) (Nat.le_refl _) X1.out⟩
                have RW : Hid (∀ W', Below wc.heap.size wc W' → CmpRow W' (.slice a cs.length c) cs) := fun W' hb => HC.out.later (B14.out.trans (hb.mono B14.out.size))
                obtain ⟨ib, hib⟩ : ∃ ib, ib = isNm s := ⟨_, rfl⟩
                obtain ⟨k1, hk1⟩ : ∃ k1, k1 = kindM cs true (min cs.length 32) := ⟨_, rfl⟩
                obtain ⟨k0, hk0⟩ : ∃ k0, k0 = kindM cs false (min cs.length 32) := ⟨_, rfl⟩
                have C19 : Hid (∀ W', Below wc.heap.size wc W' → Calls Tryd.prog 19 #[.string s] W' fun e w' => e = .returned (.bool ib) ∧ Below wc.heap.size wc w') := fun W' hb => (isname_any s W' hsk).mono fun e w' ⟨he, h⟩ => ⟨by rw [he, hib], hb.trans (h.mono hb.size)⟩
                have C20 : Hid (∀ W', Below wc.heap.size wc W' → Calls Tryd.prog 20 #[.string s] W' fun e w' => e = .returned (.bool ib) ∧ Below wc.heap.size wc w') := fun W' hb => (refname_any s W' hsk).mono fun e w' ⟨he, h⟩ => ⟨by rw [he, hib], by rw [h]; exact hb⟩
                have C21 : Hid (∀ W', Below wc.heap.size wc W' → Calls Tryd.prog 21 #[.agg #[.slice a cs.length c, .slice a' rs.length c']] W' fun e w' => e = .returned (.int .u32 k1) ∧ Below wc.heap.size wc w') := fun W' hb => (rollback_any W' _ _ ⟨_, _, _, rfl⟩ cs (RW.out W' hb) (by omega)).mono fun e w' ⟨he, h⟩ => ⟨by rw [he, hk1], hb.trans (h.mono hb.size)⟩
                have C23 : Hid (∀ W', Below wc.heap.size wc W' → Calls Tryd.prog 23 #[.agg #[.slice a cs.length c, .slice a' rs.length c']] W' fun e w' => e = .returned (.int .u32 k0) ∧ Below wc.heap.size wc w') := fun W' hb => (shown_any W' _ _ ⟨_, _, _, rfl⟩ cs (RW.out W' hb) (by omega)).mono fun e w' ⟨he, h⟩ => ⟨by rw [he, hk0], hb.trans (h.mono hb.size)⟩
                have C22t : Hid (∀ W', Below wc.heap.size wc W' → Calls Tryd.prog 22 #[.agg #[.slice a cs.length c, .slice a' rs.length c'], .bool true] W' fun e w' => e = .returned (.int .u32 k1) ∧ Below wc.heap.size wc w') := fun W' hb => (rkinds_any W' _ _ cs (RW.out W' hb) (by omega) true).mono fun e w' ⟨he, h⟩ => ⟨by rw [he, hk1], hb.trans (h.mono hb.size)⟩
                have C22f : Hid (∀ W', Below wc.heap.size wc W' → Calls Tryd.prog 22 #[.agg #[.slice a cs.length c, .slice a' rs.length c'], .bool false] W' fun e w' => e = .returned (.int .u32 k0) ∧ Below wc.heap.size wc w') := fun W' hb => (rkinds_any W' _ _ cs (RW.out W' hb) (by omega) false).mono fun e w' ⟨he, h⟩ => ⟨by rw [he, hk0], hb.trans (h.mono hb.size)⟩
                clear hib hk1 hk0 RW
                go_wp2_with fail
                go_region_held3 (fun W' => W'.cell? ⟨w.heap.size, 0, none⟩ = some (.slice a cs.length c) ∧ W'.cell? ⟨w.heap.size, 1, none⟩ = some (.slice a' rs.length c'))
                  (first | exact KK.out _ (by assumption) | exact KK.out _ (Below.refl _ _).drew)
                  (first
                    | (go_at_call 19; refine (C19.out _ (by first | assumption | exact (Below.refl _ _).drew)).mono ?_; rintro e w15 ⟨rfl, hb15⟩)
                    | (go_at_call 20; refine (C20.out _ (by first | assumption | exact (Below.refl _ _).drew)).mono ?_; rintro e w15 ⟨rfl, hb15⟩)
                    | (go_at_call 21; refine (C21.out _ (by first | assumption | exact (Below.refl _ _).drew)).mono ?_; rintro e w15 ⟨rfl, hb15⟩)
                    | (go_at_call 23; refine (C23.out _ (by first | assumption | exact (Below.refl _ _).drew)).mono ?_; rintro e w15 ⟨rfl, hb15⟩)
                    | (go_at_call_of 22 (Value.bool true); refine (C22t.out _ (by first | assumption | exact (Below.refl _ _).drew)).mono ?_; rintro e w15 ⟨rfl, hb15⟩)
                    | (go_at_call_of 22 (Value.bool false); refine (C22f.out _ (by first | assumption | exact (Below.refl _ _).drew)).mono ?_; rintro e w15 ⟨rfl, hb15⟩))
                have BF := hid (B14.out.trans (hb15.mono B14.out.size))
                clear KK C19 C20 C21 C23 C22t C22f hb15
                go_wp2_with fail
                go_ret
                exact ⟨rfl, BF.out⟩
end Go.Proofs.YtmekfiafdjdopaaDoor
