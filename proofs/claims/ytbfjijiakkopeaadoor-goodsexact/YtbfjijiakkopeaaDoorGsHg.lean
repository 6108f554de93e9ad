/- GoodsExact: the walk. -/
import Derived.Test.YtbfjijiakkopeaaDoorGsHf
import Derived.Deep.DeepCutAuto
import Derived.Deep.CutRange
import Derived.Deep.LoopGhost
import Derived.Deep.Cut
import Derived.Deep.CutBlock
import Derived.Deep.RegionHeld3
namespace Go.Proofs.YtbfjijiakkopeaaDoor.Gs
open Go.RowKit Go.Shelf Go.Maps
open Go.Proofs.YtbfjijiakkopeaaDoor.Sc (Cmp Rsc CmpRow RscRow SmallC SmallQ checkL checkL_ok memB rresource_any rcheck_any)
set_option maxHeartbeats 25600000 in
set_option maxRecDepth 100000 in
theorem exact_law (W : World) (Ad : Nat → Addr) (hE : Env W Ad) (va vb : Value) (cs : List Cmp) (rs : List Rsc) (hC : CmpRow W va cs) (hQ : RscRow W vb rs) (av : Value) (xs : List ActI) (hA : ActRow W av xs) (nm : ByteArray) :
    Calls Tryd.prog 3 #[.agg #[va, vb], av, .string nm] W fun e W' => e = .returned (.bool true) ∧ Below W.heap.size W W' := by
  obtain ⟨w0, hw0⟩ : ∃ w0, w0 = W.alloc (.cells #[va, vb] 25) := ⟨_, rfl⟩
  have b0 : Below W.heap.size W w0 := by rw [hw0]; exact bAl _ _
  have r0 : w0.heap[W.heap.size]? = some (.cells #[va, vb] 25 (0, 0)) := by rw [hw0]; exact heap_alloc_new W _
  have AW := hid (awake_any Ad w0 (hE.later b0).eight)
  have HC := hid hC
  have HQ := hid hQ
  have HA := hid hA
  have HE := hid hE
  obtain ⟨a, c, rfl, -, -⟩ := hC
  obtain ⟨a', c', rfl, -, -⟩ := hQ
  obtain ⟨ca, cc, rfl, -, -⟩ := hA
  have HW0 := hid hw0
  have B0 := hid b0
  have R0 := hid r0
  clear hE hw0 b0 r0
  go_enter Tryd.func3, Tryd.ntmps3
  go_upto_region 1 with fail
  rw [← HW0.out]
  go_wp2_with fail
  refine AW.out.mono ?_
  rintro e w1 ⟨rfl, hb1⟩
  have r1 := blk_seen hb1 (Nat.le_refl _) R0.out
  have B1 := hid (B0.out.trans (hb1.mono B0.out.size))
  have y0 : w1.cell? ⟨W.heap.size, 0, none⟩ = some (.slice a cs.length c) := cell_blk r1 rfl
  have y1 : w1.cell? ⟨W.heap.size, 1, none⟩ = some (.slice a' rs.length c') := cell_blk r1 rfl
  have R1 := hid r1
  clear AW hb1 r1 HW0 B0 R0
  by_cases hc40 : 40 < cs.length
  · have hci : (40 : Int) < (cs.length : Int) := by omega
    go_wp2_with fail
    go_ret
    exact ⟨rfl, B1.out⟩
  have hci : ¬ (40 : Int) < (cs.length : Int) := by omega
  by_cases hr40 : 40 < rs.length
  · have hri : (40 : Int) < (rs.length : Int) := by omega
    go_wp2_with fail
    go_ret
    exact ⟨rfl, B1.out⟩
  have hri : ¬ (40 : Int) < (rs.length : Int) := by omega
  by_cases hn100 : 100 < nm.size
  · have hni : (100 : Int) < (nm.size : Int) := by omega
    go_wp2_with fail
    go_ret
    exact ⟨rfl, B1.out⟩
  have hni : ¬ (100 : Int) < (nm.size : Int) := by omega
  have sC : SmallC cs := ⟨by omega, trivial⟩
  have sQ : SmallQ rs := ⟨by omega, trivial⟩
  have E1 := hid (HE.out.later B1.out)
  by_cases hck : checkL cs rs = []
  · have NW := hid (new_ok Ad w1 _ _ cs rs E1.out.eight (HC.out.later B1.out) (HQ.out.later B1.out) sC sQ hck)
    have HS := hid (And.intro sC sQ)
    have HCK := hid hck
    have h8 := (chk_res hck).1
    clear sC sQ hck
    go_wp2_with fail
    refine NW.out.mono ?_
    rintro e w2 ⟨gb, rfl, ⟨mb, v2, h2⟩, hb2⟩
    have r2 := blk_seen hb2 (Nat.le_refl _) R1.out
    have z0 : w2.cell? ⟨W.heap.size, 0, none⟩ = some (.slice a cs.length c) := cell_blk r2 rfl
    have z1 : w2.cell? ⟨W.heap.size, 1, none⟩ = some (.slice a' rs.length c') := cell_blk r2 rfl
    have b12 := B1.out.trans (hb2.mono B1.out.size)
    have RN := hid (rnew_ok w2 _ _ cs rs (HC.out.later b12) (HQ.out.later b12) HS.out.1 HS.out.2 HCK.out)
    have G2 := hid h2
    have C2 := hid hb2
    clear NW h2 hb2 r2 b12 y0 y1
    go_wp2_with fail
    refine RN.out.mono ?_
    rintro e w3 ⟨ub, rfl, ⟨uv, h3⟩, hb3⟩
    have X3 := hid (ex_made G2.out C2.out h3 hb3)
    clear RN h3 hb3 G2 C2 z0 z1
    obtain ⟨NS, hNS⟩ : ∃ NS, NS = rs.map Rsc.s := ⟨_, rfl⟩
    obtain ⟨L0, hL0⟩ : ∃ L0, L0 = rs.map Rsc.n := ⟨_, rfl⟩
    rw [← hNS, ← hL0] at X3
    have HNS := hid hNS
    clear hNS hL0
    go_upto_block 0 with fail
    go_cut [10, 11, 12, 13, 14, 15, 16, 17, 18, 19, 20, 21, 22, 23, 24, 25] from 77 to 218 (fun _ _ _ _ _ _ _ _ _ _ _ _ _ _ _ _ wx => ∃ (l : List Int) (n : Nat), Hid (Es w1 gb mb v2 NS ub (.slice a cs.length c) (.slice a' rs.length c') l n l n [] wx))
    case first =>
      go_wp2_with fail
      go_loopg [10, 11, 12, 13, 14, 15, 16, 17, 18, 19, 20, 21, 22, 23, 24, 25] 100 (fun gh i _ _ _ _ _ _ _ _ _ _ _ _ _ _ _ wr => ∃ q : Nat, q ≤ 100 ∧ gh = 100 - q ∧ i = .int .i64 (q : Int) ∧ ∃ (l : List Int) (n : Nat), Hid (Es w1 gb mb v2 NS ub (.slice a cs.length c) (.slice a' rs.length c') l n l n [] wr) ∧ Hid (n ≤ 8 * q))
      case atStart => exact ⟨0, by omega, rfl, rfl, L0, 0, X3.out, Nat.zero_le _⟩
      case round =>
        clear X3
        rename World => wr
        obtain ⟨q, hq, rfl, rfl, l, n, HX, HLEN⟩ := hrel
        by_cases h1 : q < xs.length
        · have h1i : (q : Int) < (xs.length : Int) := by omega
          by_cases h2 : q < 100
          · have h2i : (q : Int) < 100 := by omega
            obtain ⟨x, hx⟩ := at_lt xs q h1
            have BR := hid (B1.out.trans (HX.out.bel.mono B1.out.size))
            have LR : Hid (LRow w1 x.lv x.l) := by
              obtain ⟨_, _, _, q2, _⟩ := HA.out.later B1.out
              exact q2 x (List.mem_of_getElem? hx)
            obtain ⟨la, lc, hlv⟩ : ∃ la lc, x.lv = .slice la x.l.length lc := by
              obtain ⟨la, lc, e, -⟩ := LR.out
              exact ⟨la, lc, e⟩
            obtain ⟨b, o, rfl, c0, c1, c2, c3⟩ : ∃ b o, ca = some ⟨b, o, none⟩ ∧ wr.cell? ⟨b, o + q * 4, none⟩ = some (.int .i64 x.kd) ∧ wr.cell? ⟨b, o + q * 4 + 1, none⟩ = some (.int .i64 x.i) ∧ wr.cell? ⟨b, o + q * 4 + 2, none⟩ = some (.int .i64 x.n) ∧ wr.cell? ⟨b, o + q * 4 + 3, none⟩ = some (.slice la x.l.length lc) := by
              obtain ⟨a'', c'', hv, -, hl⟩ := HA.out.later BR.out
              obtain ⟨rfl, rfl⟩ : ca = a'' ∧ cc = c'' := by simpa using hv
              rcases hl with h | ⟨b, o, h4, h5⟩
              · rw [h] at h1; simp at h1
              · obtain ⟨p0, p1, p2, p3⟩ := h5 q x hx
                exact ⟨b, o, h4, p0, p1, p2, by rw [p3, hlv]⟩
            rw [hlv] at LR
            obtain ⟨w4, hw4⟩ : ∃ w4, w4 = wr.alloc (.cells #[.int .i64 x.kd, .int .i64 x.i, .int .i64 x.n, .slice la x.l.length lc] 41) := ⟨_, rfl⟩
            obtain ⟨bx, hbx⟩ : ∃ bx, bx = wr.heap.size := ⟨_, rfl⟩
            have X4 : Hid (Es w1 gb mb v2 NS ub (.slice a cs.length c) (.slice a' rs.length c') l n l n [(bx, .cells #[.int .i64 x.kd, .int .i64 x.i, .int .i64 x.n, .slice la x.l.length lc] 41 (0, 0))] w4) := by
              obtain ⟨uv, h⟩ := HX.out
              rw [hw4, hbx]
              exact ⟨uv, h.alloc _ _⟩
            have A4 := X4.out.at (List.mem_cons_self ..)
            have HW4 := hid hw4
            have HBX := hid hbx
            have y0 : w4.cell? ⟨bx, 0, none⟩ = some (.int .i64 x.kd) := cell_blk A4 rfl
            have y1 : w4.cell? ⟨bx, 1, none⟩ = some (.int .i64 x.i) := cell_blk A4 rfl
            have y2 : w4.cell? ⟨bx, 2, none⟩ = some (.int .i64 x.n) := cell_blk A4 rfl
            have y3 : w4.cell? ⟨bx, 3, none⟩ = some (.slice la x.l.length lc) := cell_blk A4 rfl
            have BF := hid (B1.out.trans (X4.out.bel.mono B1.out.size))
            clear hx hw4 hbx HX A4 hlv
            go_upto_region 15 with fail
            rw [← HW4.out, ← HBX.out]
            clear HW4 c0 c1 c2 c3
            by_cases hL : 40 < x.l.length
            · have hLi : (40 : Int) < (x.l.length : Int) := by omega
              go_wp2_with fail
              go_ret
              exact ⟨rfl, BF.out⟩
            · have hLi : ¬ (40 : Int) < (x.l.length : Int) := by omega
              go_upto_block 2 with fail
              have HN8 : n ≤ 10000 := by have := HLEN.out; omega
              have HLX : x.l.length ≤ 40 := by omega
              go_cut [12, 13, 14, 15, 16, 17, 18, 19, 20, 21, 22, 23, 24, 25] from 77 to 218 (fun _ _ _ _ _ _ _ _ _ _ _ _ _ _ wx => ∃ (l' : List Int) (n' : Nat), Hid (Es w1 gb mb v2 NS ub (.slice a cs.length c) (.slice a' rs.length c') l' n' l' n' [(bx, .cells #[.int .i64 x.kd, .int .i64 x.i, .int .i64 x.n, .slice la x.l.length lc] 41 (0, 0))] wx) ∧ Hid (n' ≤ 8 * (q + 1)))
              case first =>
                have ACT : Hid (∀ w' l1 n1 l2 n2, Es w1 gb mb v2 NS ub (.slice a cs.length c) (.slice a' rs.length c') l1 n1 l2 n2 [(bx, .cells #[.int .i64 x.kd, .int .i64 x.i, .int .i64 x.n, .slice la x.l.length lc] 41 (0, 0))] w' → w'.cell? ⟨bx, 1, none⟩ = some (.int .i64 x.i) ∧ w'.cell? ⟨bx, 2, none⟩ = some (.int .i64 x.n) ∧ w'.cell? ⟨bx, 3, none⟩ = some (.slice la x.l.length lc)) := fun w' l1 n1 l2 n2 h => by
                  have A := h.at (List.mem_cons_self ..)
                  exact ⟨cell_blk A rfl, cell_blk A rfl, cell_blk A rfl⟩
                by_cases hk1 : x.kd = 1
                · have q1 : (x.kd == 1) = true := by simp [hk1]
                  have PS := hid (p_set X4.out E1.out HN8 x.i x.n)
                  have NL : Hid (sN l x.i n ≤ 8 * (q + 1)) := by show _ ≤ _; have := sN_le l x.i n; have := HLEN.out; omega
                  generalize hAe : (numAt l x.i).getD 0 = A at PS
                  generalize hKe : sK l x.i = K at PS
                  have HAE := hid hAe
                  have HKE := hid hKe
                  clear hk1 hAe hKe
                  go_wp2_with fail
                  refine PS.out.mono ?_
                  rintro e w5 ⟨ev, rfl, hf5, hx5⟩
                  have DS := hid (d_set (Ad := Ad) hx5 ⟨_, _, _, rfl⟩ HN8 x.i x.n)
                  rw [HAE.out, HKE.out] at DS
                  obtain ⟨z1, z2, z3⟩ := ACT.out _ _ _ _ _ hx5
                  have F5 := hid hf5
                  clear PS hf5 hx5 y0 y1 y2 y3
                  go_wp2_with fail
                  refine DS.out.mono ?_
                  rintro e w6 ⟨rfl, hx6, hk6⟩
                  have NU := hid (num_fe (hx6.env E1.out) (hk6 _ _ F5.out))
                  have X6 := hid hx6
                  clear DS hx6 hk6 z1 z2 z3
                  go_wp2_with fail
                  refine NU.out.mono ?_
                  rintro e w7 ⟨rfl, hb7⟩
                  have X7 := hid (X6.out.later hb7)
                  clear NU hb7
                  go_wp2_with fail
                  go_meet
                  exact ⟨_, _, X7.out, NL.out⟩
                · have q1 : (x.kd == 1) = false := by simp [hk1]
                  clear hk1
                  by_cases hk2 : x.kd = 2
                  · have q2 : (x.kd == 2) = true := by simp [hk2]
                    have DG := hid (d_get X4.out x.i)
                    have PA := hid (p_add X4.out E1.out HN8 x.i x.n)
                    have NL : Hid (sN l x.i n ≤ 8 * (q + 1)) := by show _ ≤ _; have := sN_le l x.i n; have := HLEN.out; omega
                    obtain ⟨A, HAE⟩ : ∃ A, Hid ((numAt l x.i).getD 0 = A) := ⟨_, rfl⟩
                    obtain ⟨K, HKE⟩ : ∃ K, Hid (sK l x.i = K) := ⟨_, rfl⟩
                    rw [HAE.out] at DG PA
                    rw [HKE.out] at PA
                    obtain ⟨z, hz⟩ : ∃ z, wrap64 (A + x.n) = z := ⟨_, rfl⟩
                    rw [hz] at PA
                    clear hk2
                    cases hS : (numAt l x.i).isSome with
                    | true =>
                      rw [hS] at DG PA
                      rw [if_pos rfl] at PA
                      go_wp2_with fail
                      refine DG.out.mono ?_
                      rintro e w' ⟨rfl, hq'⟩
                      obtain rfl := hq'.symm
                      clear hq' DG
                      go_wp2_with fail
                      refine PA.out.mono ?_
                      rintro e w5 ⟨ev, rfl, hf5, hx5⟩
                      have DS := hid (d_set (Ad := Ad) hx5 ⟨_, _, _, rfl⟩ HN8 x.i z)
                      rw [HAE.out, HKE.out] at DS
                      obtain ⟨z1, z2, z3⟩ := ACT.out _ _ _ _ _ hx5
                      have F5 := hid hf5
                      clear PA hf5 hx5 y0 y1 y2 y3
                      go_wp2_with fail
                      refine DS.out.mono ?_
                      rintro e w6 ⟨rfl, hx6, hk6⟩
                      have NU := hid (num_fe (hx6.env E1.out) (hk6 _ _ F5.out))
                      have X6 := hid hx6
                      obtain ⟨z1, z2, z3⟩ := ACT.out _ _ _ _ _ hx6
                      clear DS hx6 hk6
                      go_wp2_with fail
                      refine NU.out.mono ?_
                      rintro e w7 ⟨rfl, hb7⟩
                      have X7 := hid (X6.out.later hb7)
                      obtain ⟨z1, z2, z3⟩ := ACT.out _ _ _ _ _ X7.out
                      clear NU hb7
                      go_wp2_with fail
                      go_meet
                      exact ⟨_, _, X7.out, NL.out⟩
                    | false =>
                      rw [hS] at DG PA
                      rw [if_neg (by simp)] at PA
                      go_wp2_with fail
                      refine DG.out.mono ?_
                      rintro e w' ⟨rfl, hq'⟩
                      obtain rfl := hq'.symm
                      clear hq' DG
                      go_wp2_with fail
                      refine PA.out.mono ?_
                      rintro e w5 ⟨ev, rfl, hf5, hx5⟩
                      have DS := hid (d_set (Ad := Ad) hx5 ⟨_, _, _, rfl⟩ HN8 x.i z)
                      rw [HAE.out, HKE.out] at DS
                      obtain ⟨z1, z2, z3⟩ := ACT.out _ _ _ _ _ hx5
                      have F5 := hid hf5
                      clear PA hf5 hx5 y0 y1 y2 y3
                      go_wp2_with fail
                      refine DS.out.mono ?_
                      rintro e w6 ⟨rfl, hx6, hk6⟩
                      have NU := hid (num_fe (hx6.env E1.out) (hk6 _ _ F5.out))
                      have X6 := hid hx6
                      obtain ⟨z1, z2, z3⟩ := ACT.out _ _ _ _ _ hx6
                      clear DS hx6 hk6
                      go_wp2_with fail
                      refine NU.out.mono ?_
                      rintro e w7 ⟨rfl, hb7⟩
                      have X7 := hid (X6.out.later hb7)
                      obtain ⟨z1, z2, z3⟩ := ACT.out _ _ _ _ _ X7.out
                      clear NU hb7
                      go_wp2_with fail
                      go_meet
                      exact ⟨_, _, X7.out, NL.out⟩
                  · have q2 : (x.kd == 2) = false := by simp [hk2]
                    have NL : Hid (pN l x.l n ≤ 8 * (q + 1)) := by
                      show _ ≤ _
                      have h9 := X4.out.gd.few
                      have h10 := dif_le l x.l l.length
                      have := HLEN.out
                      unfold pN
                      split <;> omega
                    obtain ⟨K, HKE⟩ : ∃ K, Hid (pK l x.l = K) := ⟨_, rfl⟩
                    have C1 : Hid (∀ W', Below w4.heap.size w4 W' → Calls Tryd.prog 16 #[.pointer (some ⟨gb, 0, none⟩), .slice la x.l.length lc] W' fun e w' => ∃ ev, e = .returned ev ∧ Hid (PE Ad w' ev K) ∧ Hid (Es w1 gb mb v2 NS ub (.slice a cs.length c) (.slice a' rs.length c') (pL l x.l) (pN l x.l n) l n [(bx, .cells #[.int .i64 x.kd, .int .i64 x.i, .int .i64 x.n, .slice la x.l.length lc] 41 (0, 0))] w')) := fun W' hb => by
                      have := p_put (X4.out.later hb) E1.out HN8 _ x.l LR.out HLX
                      rw [HKE.out] at this
                      exact this
                    have C2 : Hid (∀ W' ev, Hid (PE Ad W' ev K) → Hid (Es w1 gb mb v2 NS ub (.slice a cs.length c) (.slice a' rs.length c') (pL l x.l) (pN l x.l n) l n [(bx, .cells #[.int .i64 x.kd, .int .i64 x.i, .int .i64 x.n, .slice la x.l.length lc] 41 (0, 0))] W') → Calls Tryd.prog 13 #[ev] W' fun e w' => e = .returned (.int .i64 (K : Int)) ∧ Hid (Es w1 gb mb v2 NS ub (.slice a cs.length c) (.slice a' rs.length c') (pL l x.l) (pN l x.l n) l n [(bx, .cells #[.int .i64 x.kd, .int .i64 x.i, .int .i64 x.n, .slice la x.l.length lc] 41 (0, 0))] w')) := fun W' ev h1 h2 => (num_pe (h2.out.env E1.out) h1.out).mono fun _ _ ⟨p1, p2⟩ => ⟨p1, h2.out.later p2⟩
                    have C3 : Hid (∀ W', Hid (Es w1 gb mb v2 NS ub (.slice a cs.length c) (.slice a' rs.length c') (pL l x.l) (pN l x.l n) l n [(bx, .cells #[.int .i64 x.kd, .int .i64 x.i, .int .i64 x.n, .slice la x.l.length lc] 41 (0, 0))] W') → Calls Tryd.prog 17 #[.pointer (some ⟨ub, 0, none⟩), .slice la x.l.length lc] W' fun e w' => e = .returned (.int .i64 (K : Int)) ∧ Hid (Es w1 gb mb v2 NS ub (.slice a cs.length c) (.slice a' rs.length c') (pL l x.l) (pN l x.l n) (pL l x.l) (pN l x.l n) [(bx, .cells #[.int .i64 x.kd, .int .i64 x.i, .int .i64 x.n, .slice la x.l.length lc] 41 (0, 0))] w')) := fun W' h2 => by
                      have := d_put h2.out HN8 _ x.l LR.out
                      rw [HKE.out] at this
                      exact this
                    have K0 : Hid (∀ W', Below w4.heap.size w4 W' → W'.cell? ⟨bx, 3, none⟩ = some (.slice la x.l.length lc)) := fun W' hb => (ACT.out _ _ _ _ _ (X4.out.later hb)).2.2
                    have K1 : Hid (∀ W', Hid (Es w1 gb mb v2 NS ub (.slice a cs.length c) (.slice a' rs.length c') (pL l x.l) (pN l x.l n) l n [(bx, .cells #[.int .i64 x.kd, .int .i64 x.i, .int .i64 x.n, .slice la x.l.length lc] 41 (0, 0))] W') → W'.cell? ⟨bx, 3, none⟩ = some (.slice la x.l.length lc)) := fun W' h => (ACT.out _ _ _ _ _ h.out).2.2
                    have K2 : Hid (∀ W', Hid (Es w1 gb mb v2 NS ub (.slice a cs.length c) (.slice a' rs.length c') (pL l x.l) (pN l x.l n) (pL l x.l) (pN l x.l n) [(bx, .cells #[.int .i64 x.kd, .int .i64 x.i, .int .i64 x.n, .slice la x.l.length lc] 41 (0, 0))] W') → W'.cell? ⟨bx, 3, none⟩ = some (.slice la x.l.length lc)) := fun W' h => (ACT.out _ _ _ _ _ h.out).2.2
                    clear hk2
                    go_upto_region 18 with fail
                    go_region_held3 (fun W' => W'.cell? ⟨bx, 3, none⟩ = some (.slice la x.l.length lc))
                      (first | exact K0.out _ (Below.refl _ _).drew | exact K0.out _ (Below.refl _ _) | exact K1.out _ (by assumption) | exact K2.out _ (by assumption))
                      (first
                        | (go_at_call 16; refine (C1.out _ (by first | exact (Below.refl _ _).drew | exact Below.refl _ _)).mono ?_; rintro e w5 ⟨ev5, rfl, p5, h5⟩)
                        | (go_at_call 13; refine (C2.out _ _ (by assumption) (by assumption)).mono ?_; rintro e w6 ⟨rfl, h6⟩)
                        | (go_at_call 17; refine (C3.out _ (by assumption)).mono ?_; rintro e w7 ⟨rfl, h7⟩))
                    clear C1 C2 C3 K0 K1 K2
                    go_wp2_with fail
                    go_meet
                    exact ⟨_, _, h7.out, NL.out⟩
              case rest =>
                clear y0 y1 y2 y3 X4 BF LR HLEN
                rename World => wx
                obtain ⟨l', n', HR, HLN⟩ := hcut
                have PG := hid (p_get HR.out E1.out x.i)
                have DG := hid (d_get HR.out x.i)
                obtain ⟨A, HAE⟩ : ∃ A, Hid ((numAt l' x.i).getD 0 = A) := ⟨_, rfl⟩
                obtain ⟨S, HSE⟩ : ∃ S, Hid ((numAt l' x.i).isSome = S) := ⟨_, rfl⟩
                rw [HAE.out, HSE.out] at PG DG
                have z1 : wx.cell? ⟨bx, 1, none⟩ = some (.int .i64 x.i) := cell_blk (HR.out.at (List.mem_cons_self ..)) rfl
                go_wp2_with fail
                refine PG.out.mono ?_
                rintro e w' ⟨rfl, hq'⟩
                obtain rfl := hq'.symm
                clear hq' PG
                go_wp2_with fail
                refine DG.out.mono ?_
                rintro e w' ⟨rfl, hq'⟩
                obtain rfl := hq'.symm
                clear hq' DG z1
                have KK : Hid (∀ W', Below wx.heap.size wx W' → W'.cell? ⟨ub, 3, none⟩ = some (.int .i64 (n' : Int))) := fun W' hb => (HR.out.later hb).n3
                have CH : Hid (∀ W', Below wx.heap.size wx W' → Calls Tryd.prog 19 #[.pointer (some ⟨gb, 0, none⟩)] W' fun e w' => e = .returned (.int .i64 (n' : Int)) ∧ Below wx.heap.size wx w') := fun W' hb => (changes_any (HR.out.later hb).gd).mono fun _ _ ⟨p1, p2⟩ => ⟨p1, by rw [p2]; exact hb⟩
                have hSS : (S != S) = false := by simp
                go_upto_region 33 with fail
                go_region_held3 (fun W' => W'.cell? ⟨ub, 3, none⟩ = some (.int .i64 (n' : Int)))
                  (first | exact KK.out _ (by assumption) | exact KK.out _ (Below.refl _ _).drew | exact KK.out _ (Below.refl _ _))
                  (first | (go_at_call 19; refine (CH.out _ (by first | assumption | exact (Below.refl _ _).drew | exact Below.refl _ _)).mono ?_; rintro e w11 ⟨rfl, hb11⟩))
                have X11 : Hid (Es w1 gb mb v2 NS ub (.slice a cs.length c) (.slice a' rs.length c') l' n' l' n' [] w11) := by
                  obtain ⟨uv, h⟩ := HR.out.later hb11
                  exact ⟨uv, h.few fun y hy => by simp at hy⟩
                clear KK CH hb11 HR
                go_wp2_with fail
                go_roundg (100 - (q + 1))
                case measure => omega
                case rel => exact ⟨q + 1, by omega, rfl, by go_num, l', n', X11.out, HLN.out⟩
          · have h2i : ¬ ((q : Int) < 100) := by omega
            go_wp2_with fail
            go_meet
            exact ⟨l, n, HX.out⟩
        · have h1i : ¬ ((q : Int) < (xs.length : Int)) := by omega
          go_wp2_with fail
          go_meet
          exact ⟨l, n, HX.out⟩
    case rest =>
      clear X3
      rename World => wo
      obtain ⟨l, n, HX⟩ := hcut
      have NM := hid (named_any HX.out.gd nm (by unfold maxLen; omega))
      have bo := B1.out.trans (HX.out.bel.mono B1.out.size)
      have ro := blk_seen HX.out.bel (Nat.le_refl _) R1.out
      have z0 : wo.cell? ⟨W.heap.size, 0, none⟩ = some (.slice a cs.length c) := cell_blk ro rfl
      have z1 : wo.cell? ⟨W.heap.size, 1, none⟩ = some (.slice a' rs.length c') := cell_blk ro rfl
      have RR := hid (rresource_any wo (.slice a cs.length c) (.slice a' rs.length c') rs (HQ.out.later bo) (by omega) nm)
      rw [found_pl, ← HNS.out] at RR
      obtain ⟨P, HPE⟩ : ∃ P, Hid (pl NS nm = P) := ⟨_, rfl⟩
      obtain ⟨M, HME⟩ : ∃ M, Hid (memB NS nm = M) := ⟨_, rfl⟩
      rw [HPE.out, HME.out] at NM RR
      clear bo ro
      go_wp2_with fail
      refine NM.out.mono ?_
      rintro e w' ⟨rfl, hq'⟩
      obtain rfl := hq'.symm
      clear hq' NM
      go_wp2_with fail
      refine RR.out.mono ?_
      rintro e w5 ⟨rfl, hb5⟩
      have X5 := hid (HX.out.later hb5)
      obtain ⟨ua, uc, d2, lr, dd⟩ := X5.out.n2
      have LR := hid lr
      have KK := hid dd
      have h89 : l.length ≤ 1000 := by have := X5.out.gd.few; omega
      have H89 := hid h89
      clear RR hb5 HX lr dd d2 z0 z1 h89
      have C1 : Hid (∀ W', Below w5.heap.size w5 W' → Calls Tryd.prog 22 #[.pointer (some ⟨gb, 0, none⟩)] W' fun e w' => e = .returned (.int .i64 (l.length : Int)) ∧ Below w5.heap.size w5 w') := fun W' hb => (len_any (X5.out.later hb).gd).mono fun _ _ ⟨p1, p2⟩ => ⟨p1, by rw [p2]; exact hb⟩
      have C2 : Hid (∀ W', Below w5.heap.size w5 W' → Calls Tryd.prog 24 #[.pointer (some ⟨gb, 0, none⟩)] W' fun e w' => ∃ v, e = .returned v ∧ LRow w' v l ∧ Below w5.heap.size w5 w') := fun W' hb => (all_any (X5.out.later hb).gd).mono fun _ _ ⟨v, q1, q2, q3⟩ => ⟨v, q1, own_lrow q2, hb.trans (q3.mono hb.size)⟩
      have C3 : Hid (∀ W' v, LRow W' v l → Below w5.heap.size w5 W' → Calls Tryd.prog 23 #[v, .slice ua l.length uc] W' fun e w' => e = .returned (.bool true) ∧ Below w5.heap.size w5 w') := fun W' v hv hb => (same_any _ v _ l hv (LR.out.later hb) H89.out).mono fun _ _ ⟨q1, q2⟩ => ⟨q1, hb.trans (q2.mono hb.size)⟩
      have BW : Hid (∀ W', Below w5.heap.size w5 W' → Below W.heap.size W W') := fun W' hb => B1.out.trans ((X5.out.later hb).bel.mono B1.out.size)
      have hMM : (M == M) = true := by simp
      go_upto_region 37 with fail
      go_region_held3 (fun W' => W'.cell? ⟨ub, 2, none⟩ = some (.slice ua l.length uc))
        (first | exact KK.out _ (by assumption) | exact KK.out _ (Below.refl _ _).drew | exact KK.out _ (Below.refl _ _))
        (first
          | (go_at_call 22; refine (C1.out _ (by first | assumption | exact (Below.refl _ _).drew | exact Below.refl _ _)).mono ?_; rintro e w11 ⟨rfl, hb11⟩)
          | (go_at_call 24; refine (C2.out _ (by assumption)).mono ?_; rintro e w12 ⟨v12, rfl, hv12, hb12⟩)
          | (go_at_call 23; refine (C3.out _ _ (by assumption) (by assumption)).mono ?_; rintro e w13 ⟨rfl, hb13⟩))
      all_goals
        have BF : Hid (Below W.heap.size W _) := BW.out _ hb13
        clear KK C1 C2 C3 BW
        go_wp2_with fail
        go_ret
        exact ⟨rfl, BF.out⟩
  · have NB := hid (new_bad Ad w1 _ _ cs rs E1.out.eight (HC.out.later B1.out) (HQ.out.later B1.out) sC sQ hck)
    have HS := hid (And.intro sC sQ)
    have HCK := hid hck
    have OK := hid (checkL_ok cs rs (by omega) (by omega))
    clear sC sQ hck
    go_wp2_with fail
    refine NB.out.mono ?_
    rintro e w2 ⟨t2, q2, rfl, ht2, hb2⟩
    have r2 := blk_seen hb2 (Nat.le_refl _) R1.out
    have z0 : w2.cell? ⟨W.heap.size, 0, none⟩ = some (.slice a cs.length c) := cell_blk r2 rfl
    have z1 : w2.cell? ⟨W.heap.size, 1, none⟩ = some (.slice a' rs.length c') := cell_blk r2 rfl
    have B2 := hid (B1.out.trans (hb2.mono B1.out.size))
    have RN := hid (rnew_no w2 _ _ cs rs (HC.out.later B2.out) (HQ.out.later B2.out) HS.out.1 HS.out.2 HCK.out)
    have T2 := hid ht2
    have R2 := hid r2
    clear NB ht2 hb2 r2 y0 y1
    go_wp2_with fail
    refine RN.out.mono ?_
    rintro e w3 ⟨rfl, hb3⟩
    have T3 := hid (T2.out.later hb3)
    have R3 := hid (blk_seen hb3 (Nat.le_refl _) R2.out)
    have B3 := hid (B2.out.trans (hb3.mono B2.out.size))
    clear RN hb3 z0 z1 T2 R2
    obtain ⟨LS, hLS⟩ : ∃ LS, LS = checkL cs rs := ⟨_, rfl⟩
    rw [← hLS] at T3 OK
    have HLS := hid hLS
    clear hLS
    have C1 : Hid (∀ W', Below w3.heap.size w3 W' → Calls Tryd.prog 9 #[.iface t2 q2] W' fun e w' => (∃ la lc, e = .returned (.slice la LS.length lc)) ∧ Below w3.heap.size w3 w') := fun W' hb => (leaves_any Ad _ LS 3 W' (HE.out.later (B3.out.trans (hb.mono B3.out.size))) (T3.out.later hb).tr (by omega) OK.out.1 (by have := OK.out.2; omega)).mono fun _ _ ⟨lv, p1, p2, p3⟩ => by
      obtain ⟨la, lc, rfl⟩ := own_slice p2
      exact ⟨⟨la, lc, p1⟩, hb.trans (p3.mono hb.size)⟩
    have C2 : Hid (∀ W', Below w3.heap.size w3 W' → Calls Tryd.prog 10 #[.agg #[.slice a cs.length c, .slice a' rs.length c']] W' fun e w' => (∃ la lc, e = .returned (.slice la LS.length lc)) ∧ Below w3.heap.size w3 w') := fun W' hb => (rcheck_any W' _ _ cs rs (HC.out.later (B3.out.trans (hb.mono B3.out.size))) (HQ.out.later (B3.out.trans (hb.mono B3.out.size))) HS.out.1 HS.out.2).mono fun _ _ ⟨lv, p1, p2, p3⟩ => by
      obtain ⟨la, lc, rfl⟩ := own_slice p2
      exact ⟨⟨la, lc, by rw [HLS.out]; exact p1⟩, hb.trans (p3.mono hb.size)⟩
    have KK : Hid (∀ W', Below w3.heap.size w3 W' → W'.cell? ⟨W.heap.size, 0, none⟩ = some (.slice a cs.length c) ∧ W'.cell? ⟨W.heap.size, 1, none⟩ = some (.slice a' rs.length c')) := fun W' hb => by
      have := blk_seen hb (Nat.le_refl _) R3.out
      exact ⟨cell_blk this rfl, cell_blk this rfl⟩
    go_upto_region 8 with fail
    go_region_held3 (fun W' => W'.cell? ⟨W.heap.size, 0, none⟩ = some (.slice a cs.length c) ∧ W'.cell? ⟨W.heap.size, 1, none⟩ = some (.slice a' rs.length c'))
      (first | exact KK.out _ (by assumption) | exact KK.out _ (Below.refl _ _).drew | exact KK.out _ (Below.refl _ _))
      (first
        | (go_at_call 9; refine (C1.out _ (by first | assumption | exact (Below.refl _ _).drew | exact Below.refl _ _)).mono ?_; rintro e w11 ⟨⟨la11, lc11, rfl⟩, hb11⟩)
        | (go_at_call 10; refine (C2.out _ (by assumption)).mono ?_; rintro e w12 ⟨⟨la12, lc12, rfl⟩, hb12⟩))
    all_goals
      have BF := hid (B3.out.trans (hb12.mono B3.out.size))
      clear KK C1 C2
      go_wp2_with fail
      go_ret
      exact ⟨rfl, BF.out⟩
end Go.Proofs.YtbfjijiakkopeaaDoor.Gs
