/- CodeWalks. -/
import Derived.Test.YtkhhiddemihnbaaDoorCwDc
import Derived.Test.YtkhhiddemihnbaaDoorCwZq
namespace Go.Proofs.YtkhhiddemihnbaaDoor.Cw
open Go.RowKit Go.Shelf
/-- What comes of asking whether code is accepted. -/
theorem accept_any (Ad : Nat → Addr) (w : World) (va vb v : Value) (cs : List Cmp) (rs : List Rsc) (l : List Ins) (hO : OpsAt w) (hE : Env8 w Ad) (hC : CmpRow w va cs) (hQ : RscRow w vb rs) (hI : InsRow w v l) (hl : cs.length ≤ 1000) (hr : rs.length ≤ 1000) (hll : l.length ≤ 90) :
    Calls Tryd.prog 16 #[.agg #[va, vb], v] w fun e w' => ∃ v', e = .returned v' ∧ (Acc cs rs l → v' = .nilIface) ∧ (¬ Acc cs rs l → ∃ t q, v' = .iface t q) ∧ Below w.heap.size w w' := by
  refine (check_any Ad w va vb v cs rs l hO hE hC hQ hI hl hr hll).mono ?_
  rintro e w' ⟨v', L, rfl, hk, ht, hb⟩
  have hn := chk_nil hk
  refine ⟨v', rfl, fun ha => ?_, fun ha => ?_, hb⟩
  · obtain rfl := hn.2 ha
    exact top_nil ht
  · exact top_iface ht fun h => ha (hn.1 h)
/-- One step of a walk. -/
theorem walk_jump {l : List Ins} (hN : NoWhere l) {p : Nat} {n : Int} {x : Ins} (hr : Rc l p n) (hx : l[p]? = some x) (hj : jmp x.1 = true) : ∃ q : Nat, x.2.1 = (q : Int) ∧ Rc l q (nxt x n) := by
  have h := hN x (List.mem_of_getElem? hx)
  have hq : x.2.1.toNat ∈ fol x p := by
    unfold fol
    rw [hj]
    simp
  refine ⟨x.2.1.toNat, ?_, hr.next hx hq⟩
  simp [nowhere, hj, isPl] at h
  omega
theorem walk_next {l : List Ins} {p : Nat} {n : Int} {x : Ins} (hr : Rc l p n) (hx : l[p]? = some x) (hj : onw x.1 = true) : Rc l (p + 1) (nxt x n) :=
  hr.next hx (by unfold fol; rw [hj]; simp)
theorem noB_all {l : List Ins} {cs : List Cmp} {rs : List Rsc} (h : Acc cs rs l) : NoWhere l := h.2.1
set_option maxHeartbeats 6400000 in
set_option maxRecDepth 100000 in
theorem walks_law (W : World) (Ad : Nat → Addr) (hO : OpsAt W) (hE : Env8 W Ad) (v u : Value) (l : List Ins) (ts : List Bool) (hI : InsRow W v l) (hT : BoolRow W u ts) : Calls Tryd.prog 5 #[v, u] W fun e W' => e = .returned (.bool true) ∧ Below W.heap.size W W' := by
  have HO := hid hO
  have HE := hid hE
  have HI := hid hI
  have HT := hid hT
  have AW := hid (awake_any W Ad hO hE)
  obtain ⟨sa, sc, rfl, -, -⟩ := hI
  obtain ⟨ta, tc, rfl, -⟩ := hT
  clear hO hE
  by_cases h80 : (80 : Int) < (l.length : Int)
  · go_enter Tryd.func5, Tryd.ntmps5
    go_wp2_with fail
    refine AW.out.mono ?_
    rintro e w1 ⟨rfl, b1⟩
    have B1 := hid b1
    clear b1 AW
    go_wp2_with fail
    go_ret
    exact ⟨rfl, B1.out⟩
  · go_enter Tryd.func5, Tryd.ntmps5
    go_wp2_with fail
    refine AW.out.mono ?_
    rintro e w1 ⟨rfl, b1⟩
    have B1 := hid b1
    have PL := hid (plain_any w1)
    clear b1 AW
    go_wp2_with fail
    refine PL.out.mono ?_
    rintro e w2 ⟨va, vb, rfl, hc2, hq2, b2⟩
    have B2 := hid (B1.out.trans (b2.mono B1.out.size))
    have AC := hid (accept_any Ad w2 va vb (.slice sa l.length sc) (plainC true) plainQ l (HO.out.later B2.out) (HE.out.later B2.out) hc2.row hq2 (HI.out.later B2.out) (by decide) (by decide) (by omega))
    clear b2 PL hc2 hq2
    go_wp2_with fail
    refine AC.out.mono ?_
    rintro e w3 ⟨v3, rfl, hy, hn, b3⟩
    have B3 := hid (B2.out.trans (b3.mono B2.out.size))
    clear b3 AC
    by_cases hA : Acc (plainC true) plainQ l
    · obtain rfl := hy hA
      have HA := hid hA
      have DP := hid (depths_any w3 (HO.out.later B3.out) (.slice sa l.length sc) l (HI.out.later B3.out) (by omega))
      clear hy hn
      have h64 : ¬ ((64 : Int) < (l.length : Int)) := by
        have := hA.1.1
        omega
      clear hA
      go_wp2_with fail
      refine DP.out.mono ?_
      rintro e w4 ⟨r, q, rfl, hp, b4⟩
      have B4 := hid (B3.out.trans (b4.mono B3.out.size))
      clear b4 DP
      rcases hp with ⟨nw, db, d, rfl, rfl, lb, hb, -⟩ | ⟨-, -, nf⟩
      · have LB := hid lb
        have NW := hid nw
        have RD := hid hb
        have hdl : (d.length : Int) = (l.length : Int) + 1 := by have := lb.len; omega
        have hlb : (l.length : Int) ≤ 64 := by omega
        clear lb nw hb
        go_wp2_with fail
        go_loopw [7, 8, 9, 10, 11, 12, 13, 14] (fun at' li i _ _ _ _ _ wr => ∃ (p : Nat) (n : Int) (k : Nat), k ≤ 300 ∧ at' = .int .i64 (p : Int) ∧ li = .int .i64 n ∧ i = .int .i64 (k : Int) ∧ Hid (Rc l p n) ∧ Hid (Below w4.heap.size w4 wr)) (fun _ _ i _ _ _ _ _ _ => 300 - (intOf i).toNat)
        case atStart => exact ⟨0, 0, 0, by omega, rfl, rfl, rfl, rc_zero l, Below.refl _ _⟩
        case round =>
          obtain ⟨p, n, k, hk, rfl, rfl, rfl, HR, HB⟩ := hrel
          by_cases hk3 : (k : Int) < 300
          · obtain ⟨hd, hn0⟩ := LB.out.rcAt HR.out
            have hpd := (List.getElem?_eq_some_iff.1 hd).1
            have hpi : (p : Int) < (d.length : Int) := by omega
            have hpl : ¬ ((l.length : Int) < (p : Int)) := by omega
            have hn16 : n ≤ 16 := (HA.out.2.low HR.out).2
            have c0 : wr.cell? ⟨db, p, none⟩ = some (.int .i64 n) := seen HB.out (Nat.le_refl _) (cell_blk RD.out (by simp [hd, gZ]))
            have BW := hid (B4.out.trans (HB.out.mono B4.out.size))
            clear hd hpd
            by_cases hpe : p = l.length
            · subst hpe
              go_wp2_with fail
              go_ret
              exact ⟨rfl, BW.out⟩
            · have hne : ¬ ((p : Int) = (l.length : Int)) := by omega
              have hlt : p < l.length := by omega
              have hli : (p : Int) < (l.length : Int) := by omega
              obtain ⟨x, hx⟩ := at_lt l p hlt
              obtain ⟨a', c', e', -, hlay⟩ := HI.out
              simp only [Value.slice.injEq, true_and] at e'
              obtain ⟨rfl, rfl⟩ := e'
              rcases hlay with h0 | ⟨bb, oo, rfl, hc⟩
              · rw [h0] at hx
                simp at hx
              obtain ⟨x0, x1, x2⟩ := (hc p x hx).later BW.out
              have HX := hid hx
              have OK := hid (HA.out.2.2.1 p n x HR.out hx)
              have NX : Hid (nxt x n = n - takes x.1 + lays x.1) := rfl
              have ok1 : takes x.1 ≤ n := OK.out.1
              have ok2 : n - takes x.1 + lays x.1 ≤ 16 := OK.out.2
              have t0 := takes_low x.1
              have t3 := takes_high x.1
              have y0 := lays_low x.1
              have y3 := lays_high x.1
              have ok3 : ¬ (n < takes x.1) := by omega
              have ok4 : ¬ (16 < n - takes x.1 + lays x.1) := by omega
              have BA : Hid (Below wr.heap.size wr (wr.alloc (.cells #[.int .i64 x.1, .int .i64 x.2.1, .int .i64 x.2.2] 59))) := bAl _ _
              have BWA := hid (BW.out.trans (BA.out.mono BW.out.size))
              have MV := hid (moves_any _ (HO.out.later BWA.out) x.1)
              have JU := hid (fun W' => jumps_any W' x.1)
              have WJ := hid (fun hj => walk_jump NW.out HR.out hx hj)
              have WN := hid (fun hj => walk_next HR.out hx hj)
              rw [NX.out] at WJ WN
              obtain ⟨op, xa, xb⟩ := x
              simp only [] at x0 x1 x2 ok1 ok2 ok3 ok4 t0 t3 y0 y3 MV JU WJ WN BA BWA
              have z0 : (wr.alloc (.cells #[.int .i64 op, .int .i64 xa, .int .i64 xb] 59)).cell? ⟨wr.heap.size, 0, none⟩ = some (.int .i64 op) := cell_blk (heap_alloc_new wr _) rfl
              have z1 : (wr.alloc (.cells #[.int .i64 op, .int .i64 xa, .int .i64 xb] 59)).cell? ⟨wr.heap.size, 1, none⟩ = some (.int .i64 xa) := cell_blk (heap_alloc_new wr _) rfl
              clear hc hx HX OK NX
              generalize takes op = t at *
              generalize lays op = y at *
              go_upto_region 18 with fail
              generalize hwq : wr.alloc (.cells #[.int .i64 op, .int .i64 xa, .int .i64 xb] 59) = wq at *
              clear hwq x0 x1 x2 c0
              go_wp2_with fail
              refine MV.out.mono ?_
              rintro e w5 ⟨rfl, b5⟩
              have B5 := hid ((HB.out.trans (BA.out.mono HB.out.size)).trans (b5.mono (Nat.le_trans HB.out.size BA.out.size)))
              have s0 := seen b5 (Nat.le_refl _) z0
              have s1 := seen b5 (Nat.le_refl _) z1
              clear b5 MV z0 z1
              go_wp2_with fail
              refine (JU.out _).mono ?_
              rintro e w6 ⟨rfl, b6⟩
              have B6 := hid (B5.out.trans (b6.mono B5.out.size))
              have r1 := seen b6 (Nat.le_refl _) s1
              have BE := hid (B4.out.trans (B6.out.mono B4.out.size))
              clear b6 JU s0 s1
              cases hj : jmp op with
              | false =>
                rw [hj] at WJ
                clear WJ
                cases ho : onw op with
                | false =>
                  clear WN
                  go_wp2_with fail
                  go_ret
                  exact ⟨rfl, BE.out⟩
                | true =>
                  have R1 := hid (WN.out ho)
                  clear WN
                  go_wp2_with fail
                  go_roundw
                  case rel => exact ⟨p + 1, _, k + 1, by omega, by go_num, rfl, by go_num, R1, B6⟩
                  case measure => simp [intOf]; omega
              | true =>
                obtain ⟨q, rfl, hrq⟩ := WJ.out hj
                have RQ := hid hrq
                clear WJ hrq
                cases ho : onw op with
                | false =>
                  clear WN
                  go_wp2_with fail
                  go_roundw
                  case rel => exact ⟨q, _, k + 1, by omega, rfl, rfl, by go_num, RQ, B6⟩
                  case measure => simp [intOf]; omega
                | true =>
                  have R1 := hid (WN.out ho)
                  clear WN
                  by_cases hts : k < ts.length
                  · have htsi : (k : Int) < (ts.length : Int) := by omega
                    obtain ⟨z, hz⟩ := at_lt ts k hts
                    obtain ⟨a2, c2, e2, hlt2⟩ := HT.out
                    simp only [Value.slice.injEq, true_and] at e2
                    obtain ⟨rfl, rfl⟩ := e2
                    rcases hlt2 with h0 | ⟨b2, o2, rfl, hc2⟩
                    · rw [h0] at hz
                      simp at hz
                    have zc := seen BE.out (Nat.le_refl _) (hc2 k z hz)
                    clear hc2 hz
                    cases z with
                    | true =>
                      go_wp2_with fail
                      go_roundw
                      case rel => exact ⟨q, _, k + 1, by omega, rfl, rfl, by go_num, RQ, B6⟩
                      case measure => simp [intOf]; omega
                    | false =>
                      go_wp2_with fail
                      go_roundw
                      case rel => exact ⟨p + 1, _, k + 1, by omega, by go_num, rfl, by go_num, R1, B6⟩
                      case measure => simp [intOf]; omega
                  · have htsi : ¬ ((k : Int) < (ts.length : Int)) := by omega
                    go_wp2_with fail
                    go_roundw
                    case rel => exact ⟨p + 1, _, k + 1, by omega, by go_num, rfl, by go_num, R1, B6⟩
                    case measure => simp [intOf]; omega
          · have BW := hid (B4.out.trans (HB.out.mono B4.out.size))
            go_wp2_with fail
            go_ret
            exact ⟨rfl, BW.out⟩
      · exact absurd HA.out.2 nf
    · obtain ⟨t, q, rfl⟩ := hn hA
      clear hy hn hA
      go_wp2_with fail
      go_ret
      exact ⟨rfl, B3.out⟩
end Go.Proofs.YtkhhiddemihnbaaDoor.Cw
