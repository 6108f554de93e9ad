/- The document's Check. -/
import Derived.Test.YtkhhiddemihnbaaDoorCwRg
import Derived.Deep.DeepCutAuto
import Derived.Deep.CutRange
import Derived.Deep.CutBlock
import Derived.Deep.LoopGhost
namespace Go.Proofs.YtkhhiddemihnbaaDoor.Cw
open Go.RowKit Go.Shelf
set_option maxHeartbeats 8000000 in
set_option maxRecDepth 100000 in
theorem rcheck_any (w : World) (va vb v : Value) (cs : List Cmp) (rs : List Rsc) (l : List Ins) (hC : CmpRow w va cs) (hQ : RscRow w vb rs) (hI : InsRow w v l) (hcl : cs.length ≤ 1000) (hrl : rs.length ≤ 1000) (hl : l.length ≤ 100) :
    Calls Tryd.prog 18 #[.agg #[va, vb], v] w fun e w' => ∃ lv L, e = .returned lv ∧ ChkR cs rs l L ∧ w'.ownsRow w.heap.size 50 2 lv L.length (leafCells L) ∧ Below w.heap.size w w' := by
  have HC := hid hC
  have HQ := hid hQ
  have HI := hid hI
  obtain ⟨sa, sc, rfl, -, -⟩ := hC
  obtain ⟨ta, tc, rfl, -, -⟩ := hQ
  obtain ⟨la, lc, rfl, -, -⟩ := hI
  have hcli : (cs.length : Int) ≤ 1000 := by omega
  have hrli : (rs.length : Int) ≤ 1000 := by omega
  have hli : (l.length : Int) ≤ 100 := by omega
  obtain ⟨w0, hw0⟩ : ∃ w0, w0 = w.alloc (.cells #[.slice sa cs.length sc, .slice ta rs.length tc] 39) := ⟨_, rfl⟩
  have B0 : Hid (Below w.heap.size w w0) := by rw [hw0]; exact bAl _ _
  obtain ⟨x0, x1⟩ := cell_pair w (.slice sa cs.length sc) (.slice ta rs.length tc) 39
  rw [← hw0] at x0 x1
  have X0 := hid x0
  have X1 := hid x1
  obtain ⟨w00, hw00⟩ : ∃ w00, w00 = w0.alloc (.cells #[] 50) := ⟨_, rfl⟩
  have F0 : Hid (FL w0 (.slice (some ⟨w0.heap.size, 0, none⟩) 0 0) [] w00) := by
    rw [hw00]
    exact ⟨World.ownsRow_lit w0 #[] 0 (Nat.le_refl _) (by simp [maxLen]) rfl, bAl _ _, by simp⟩
  clear x0 x1
  go_enter Tryd.func18, Tryd.ntmps18
  go_upto_region 1 with fail
  rw [← hw0]
  clear hw0
  go_upto_region 2 with fail
  rw [← hw00]
  clear hw00
  go_upto_if 19 with fail
  go_cut [5] (fun s5 wx => FL w0 s5 (longL l) wx)
  case first =>
    as_aux_lemma =>
      by_cases hm : 64 < l.length
      · have R : Hid (longL l = [([wC], 4)]) := by unfold longL; rw [if_pos hm]; exact rfl
        have hmi : (64 : Int) < (l.length : Int) := by omega
        clear hm
        go_wp2_with (at_builtin; refine wpList_flaw w0 _ rfl (.tmp 20) (.tmp 22) rfl _ [] (by rfl) F0.out [wC] 4 _ (joinB_one _).symm (by rfl) (by simp) ?_; intro v' w' HF HK)
        go_meet
        exact HF.out.grown (by rw [R.out]; rfl)
      · have R : Hid (longL l = []) := by unfold longL; rw [if_neg hm]; exact rfl
        have hmi : ¬ ((64 : Int) < (l.length : Int)) := by omega
        clear hm
        go_wp2_with fail
        go_meet
        exact F0.out.grown R.out.symm
  case rest =>
    have HF := hid hcut
    clear hcut F0
    go_wp2_with fail
    go_loopg [5, 6, 7, 8, 9, 10, 11, 12, 13] l.length (fun gh s5 s6 _ _ _ _ _ _ _ wx => ∃ k : Nat, k ≤ l.length ∧ gh = l.length - k ∧ s6 = .int .i64 (k : Int) ∧ Hid (FL w0 s5 (longL l ++ insT cs rs l k) wx))
    case atStart => exact ⟨0, Nat.zero_le _, rfl, rfl, HF.out.grown (by simp [insT])⟩
    case round =>
      rename World => wo
      obtain ⟨k, hk, rfl, rfl, HK⟩ := hrel
      have BW := hid (B0.out.trans (HK.out.bel.mono B0.out.size))
      clear HF
      by_cases hlt : k < l.length
      · as_aux_lemma =>
          have hki : (k : Int) < (l.length : Int) := by omega
          obtain ⟨x, hx⟩ := at_lt l k hlt
          obtain ⟨bb, oo, rfl, hc⟩ : ∃ bb oo, la = some ⟨bb, oo, none⟩ ∧ Thr w bb (oo + k * 3) x := by
            obtain ⟨a', c', e', -, hlay⟩ := HI.out
            simp only [Value.slice.injEq, true_and] at e'
            obtain ⟨rfl, rfl⟩ := e'
            rcases hlay with h0 | ⟨bb, oo, rfl, hc⟩
            · rw [h0] at hx
              simp at hx
            · exact ⟨bb, oo, rfl, hc k x hx⟩
          obtain ⟨c0, c1, c2⟩ := hc.later BW.out
          obtain ⟨ls, hls⟩ : ∃ ls, ls = longL l ++ insT cs rs l k := ⟨_, rfl⟩
          have LL : Hid (ls.length ≤ 300) := by
            show _ ≤ _
            rw [hls, List.length_append]
            have := longL_len l
            have := insT_len cs rs l k
            omega
          have NX : Hid (longL l ++ insT cs rs l (k + 1) = ls ++ insL cs rs l.length k x) := by
            show _ = _
            rw [insT_next hx, hls, List.append_assoc]
          rw [← hls] at HK
          clear hls hx hc
          have FBN := hid (fun w2 hb => fb_new HK.out x w2 hb)
          obtain ⟨wa, hwa⟩ : ∃ wa, wa = wo.alloc (.cells #[.int .i64 x.1, .int .i64 x.2.1, .int .i64 x.2.2] 59) := ⟨_, rfl⟩
          obtain ⟨g7, hg7⟩ : ∃ g7, g7 = wo.heap.size := ⟨_, rfl⟩
          have z0 : wa.cell? ⟨g7, 0, none⟩ = some (.int .i64 x.1) := by rw [hwa, hg7]; exact cell_blk (heap_alloc_new wo _) rfl
          have Z0 := hid z0
          rw [← hwa, ← hg7] at FBN
          have DC := hid (digits_any k (by omega) wa)
          have d2 : (dig k).size ≤ 2 := dig_size k (by omega)
          obtain ⟨pp1, hpp1⟩ : ∃ pp1, pp1 = (⟨#[99, 111, 100, 101, 47]⟩ : ByteArray) ++ dig k := ⟨_, rfl⟩
          have s1 : pp1.size ≤ 20 := by rw [hpp1, ByteArray.size_append]; show 5 + _ ≤ _; omega
          obtain ⟨pp2, hpp2⟩ : ∃ pp2, pp2 = pp1 ++ (⟨#[47]⟩ : ByteArray) := ⟨_, rfl⟩
          have s2 : pp2.size ≤ 30 := by rw [hpp2, ByteArray.size_append]; show _ + 1 ≤ _; omega
          have a1 := add_eq ⟨#[99, 111, 100, 101, 47]⟩ (dig k) pp1 (show 5 ≤ 1000 by decide) (by omega) hpp1.symm
          have a2 := add_eq pp1 ⟨#[47]⟩ pp2 (by omega) (show 1 ≤ 1000 by decide) hpp2.symm
          have PJ : ∀ p, pp2 ++ p = joinB [wC, dig k, p] := fun p => joinB_path pp2 (dig k) p (by rw [hpp2, hpp1])
          have AO := hid (add_eq pp2 ⟨#[111, 112]⟩ (joinB [wC, dig k, wO]) (by omega) (show 2 ≤ 1000 by decide) (PJ _))
          have AA := hid (add_eq pp2 ⟨#[97]⟩ (joinB [wC, dig k, wA]) (by omega) (show 1 ≤ 1000 by decide) (PJ _))
          have AB := hid (add_eq pp2 ⟨#[98]⟩ (joinB [wC, dig k, wB]) (by omega) (show 1 ≤ 1000 by decide) (PJ _))
          clear hpp1 hpp2 PJ s1 s2 d2
          go_upto_region 8 with fail
          rw [← hwa, ← hg7]
          clear hwa hg7
          go_wp2_with fail
          refine DC.out.mono ?_
          rintro e w1 ⟨rfl, b1⟩
          have B1 := hid b1
          have OF := hid (of_any x.1 w1)
          have z0 := seen b1 (Nat.le_refl _) Z0.out
          unfold opV at OF
          clear b1 DC Z0 c0 c1 c2
          go_wp2_with fail
          refine OF.out.mono ?_
          rintro e w2 ⟨rfl, b2⟩
          have FX := hid (FBN.out w2 (B1.out.trans (b2.mono B1.out.size)))
          obtain ⟨wq, hwq⟩ : ∃ wq, wq = w2.alloc (.cells #[.string (word x.1), .int .i64 (args x.1), .int .i64 (takes x.1), .int .i64 (lays x.1)] 24) := ⟨_, rfl⟩
          obtain ⟨g9, hg9⟩ : ∃ g9, g9 = w2.heap.size := ⟨_, rfl⟩
          rw [← hwq, ← hg9] at FX
          clear b2 OF FBN z0 a1 a2 B1
          go_upto_region 10 with fail
          rw [← hwq, ← hg9]
          clear hwq hg9 HK
          cases hkn : known x.1
          case false =>
            as_aux_lemma =>
              have R : Hid (ls ++ [([wC, dig k, wO], 14)] = longL l ++ insT cs rs l (k + 1)) := by
                show _ = _
                rw [NX.out]
                unfold insL
                rw [hkn]
                rfl
              have a3 := AO.out
              clear NX hkn
              go_wp2_with (at_builtin; refine wpList_flaw w0 _ rfl (.tmp 46) (.tmp 50) rfl _ ls (by rfl) FX.out.fl [wC, dig k, wO] 14 _ rfl (by rfl) (by have := LL.out; omega) ?_; intro v' w' HF HK)
              go_roundg (l.length - (k + 1))
              case measure => omega
              case rel => exact ⟨k + 1, by omega, rfl, by go_num, HF.out.grown R.out⟩
          case true =>
            as_aux_lemma =>
              obtain ⟨q1, HQ1⟩ : ∃ q, Hid (q = rok cs rs l.length x) := ⟨_, hid (Eq.refl _)⟩
              obtain ⟨qc, HQC⟩ : ∃ q, Hid (q = rcell cs rs l.length x) := ⟨_, hid (Eq.refl _)⟩
              obtain ⟨nn, HNN⟩ : ∃ n, Hid (n = rnum x) := ⟨_, hid (Eq.refl _)⟩
              have HKN := hid hkn
              obtain ⟨L1, HL1⟩ : ∃ L1, Hid (L1 = ls ++ pc wA k nn (!q1)) := ⟨_, hid (Eq.refl _)⟩
              have LL1 : Hid (L1.length ≤ 301) := by
                show _ ≤ _
                rw [HL1.out, List.length_append]
                have := pc_len wA k nn (!q1)
                have := LL.out
                omega
              obtain ⟨q2, HQ2⟩ : ∃ q, Hid (q = (qc && !inW x.2.2 (widthOf cs x.2.1))) := ⟨_, hid (Eq.refl _)⟩
              obtain ⟨L2, HL2⟩ : ∃ L2, Hid (L2 = L1 ++ pc wB k 1 q2) := ⟨_, hid (Eq.refl _)⟩
              have LL2 : Hid (L2.length ≤ 302) := by
                show _ ≤ _
                rw [HL2.out, List.length_append]
                have := pc_len wB k 1 q2
                have := LL1.out
                omega
              obtain ⟨q3, HQ3⟩ : ∃ q, Hid (q = (decide (args x.1 < 1) && !(x.2.1 == 0))) := ⟨_, hid (Eq.refl _)⟩
              obtain ⟨L3, HL3⟩ : ∃ L3, Hid (L3 = L2 ++ pc wA k 1 q3) := ⟨_, hid (Eq.refl _)⟩
              have LL3 : Hid (L3.length ≤ 303) := by
                show _ ≤ _
                rw [HL3.out, List.length_append]
                have := pc_len wA k 1 q3
                have := LL2.out
                omega
              obtain ⟨q4, HQ4⟩ : ∃ q, Hid (q = (decide (args x.1 < 2) && !(x.2.2 == 0))) := ⟨_, hid (Eq.refl _)⟩
              obtain ⟨L4, HL4⟩ : ∃ L4, Hid (L4 = L3 ++ pc wB k 1 q4) := ⟨_, hid (Eq.refl _)⟩
              have FIN : Hid (L4 = longL l ++ insT cs rs l (k + 1)) := by
                show _ = _
                rw [NX.out, ← pcs cs rs l.length k x hkn, HL4.out, HL3.out, HL2.out, HL1.out, HQ4.out, HQ3.out, HQ2.out, HQC.out, HNN.out, HQ1.out]
                simp only [List.append_assoc]
              have j0 := FX.out.cells.1
              clear hkn NX
              go_upto_block 2 with fail
              go_cut [11, 12, 13] from 24 to 193 (fun s11 s12 s13 wx => s11 = .bool q1 ∧ s12 = .bool qc ∧ s13 = .int .i64 (nn : Int) ∧ Hid (FB w0 g7 g9 x u5 ls wx))
              case first =>
                clear j0 HL1 LL1 HQ2 HL2 LL2 HQ3 HL3 LL3 HQ4 HL4 FIN LL AO AA AB HKN
                obtain ⟨i0, i1, i2, r1⟩ := FX.out.cells
                obtain ⟨y0, y1⟩ := FX.out.box X0.out X1.out
                have BQ := hid (B0.out.trans (FX.out.fl.bel.mono B0.out.size))
                obtain ⟨op, xa, xb⟩ := x
                simp only [] at i0 i1 i2 r1
                clear r1 i2 BW X0 X1
                by_cases n20 : op = 20
                · subst n20
                  as_aux_lemma =>
                    by_cases h0 : 0 ≤ xa
                    · by_cases h1 : xa ≤ (l.length : Int)
                      · have R : Hid (rok cs rs l.length (20, xa, xb) = true) := by show _ = _; simp [rok, isPl, h0, h1]
                        have RC : Hid (rcell cs rs l.length (20, xa, xb) = false) := by show _ = _; simp [rcell]
                        go_wp2_with fail
                        go_meet
                        exact ⟨congrArg Value.bool (HQ1.out.trans R.out).symm, congrArg Value.bool (HQC.out.trans RC.out).symm, congrArg (Value.int .i64) (congrArg Int.ofNat HNN.out.symm), FX.out⟩
                      · have R : Hid (rok cs rs l.length (20, xa, xb) = false) := by show _ = _; simp [rok, isPl, h0, h1]
                        have RC : Hid (rcell cs rs l.length (20, xa, xb) = false) := by show _ = _; simp [rcell]
                        go_wp2_with fail
                        go_meet
                        exact ⟨congrArg Value.bool (HQ1.out.trans R.out).symm, congrArg Value.bool (HQC.out.trans RC.out).symm, congrArg (Value.int .i64) (congrArg Int.ofNat HNN.out.symm), FX.out⟩
                    · have R : Hid (rok cs rs l.length (20, xa, xb) = false) := by show _ = _; simp [rok, isPl, h0]
                      have RC : Hid (rcell cs rs l.length (20, xa, xb) = false) := by show _ = _; simp [rcell]
                      go_wp2_with fail
                      go_meet
                      exact ⟨congrArg Value.bool (HQ1.out.trans R.out).symm, congrArg Value.bool (HQC.out.trans RC.out).symm, congrArg (Value.int .i64) (congrArg Int.ofNat HNN.out.symm), FX.out⟩
                by_cases n21 : op = 21
                · subst n21
                  as_aux_lemma =>
                    by_cases h0 : 0 ≤ xa
                    · by_cases h1 : xa ≤ (l.length : Int)
                      · have R : Hid (rok cs rs l.length (21, xa, xb) = true) := by show _ = _; simp [rok, isPl, h0, h1]
                        have RC : Hid (rcell cs rs l.length (21, xa, xb) = false) := by show _ = _; simp [rcell]
                        go_wp2_with fail
                        go_meet
                        exact ⟨congrArg Value.bool (HQ1.out.trans R.out).symm, congrArg Value.bool (HQC.out.trans RC.out).symm, congrArg (Value.int .i64) (congrArg Int.ofNat HNN.out.symm), FX.out⟩
                      · have R : Hid (rok cs rs l.length (21, xa, xb) = false) := by show _ = _; simp [rok, isPl, h0, h1]
                        have RC : Hid (rcell cs rs l.length (21, xa, xb) = false) := by show _ = _; simp [rcell]
                        go_wp2_with fail
                        go_meet
                        exact ⟨congrArg Value.bool (HQ1.out.trans R.out).symm, congrArg Value.bool (HQC.out.trans RC.out).symm, congrArg (Value.int .i64) (congrArg Int.ofNat HNN.out.symm), FX.out⟩
                    · have R : Hid (rok cs rs l.length (21, xa, xb) = false) := by show _ = _; simp [rok, isPl, h0]
                      have RC : Hid (rcell cs rs l.length (21, xa, xb) = false) := by show _ = _; simp [rcell]
                      go_wp2_with fail
                      go_meet
                      exact ⟨congrArg Value.bool (HQ1.out.trans R.out).symm, congrArg Value.bool (HQC.out.trans RC.out).symm, congrArg (Value.int .i64) (congrArg Int.ofNat HNN.out.symm), FX.out⟩
                by_cases n22 : op = 22
                · subst n22
                  as_aux_lemma =>
                    have CM := hid (comp_any wq (.slice sa cs.length sc) (.slice ta rs.length tc) cs xa true (HC.out.later BQ.out) hcl)
                    have R : Hid (rok cs rs l.length (22, xa, xb) = compB cs xa true) := by show _ = _; simp [rok, compB]
                    have RC : Hid (rcell cs rs l.length (22, xa, xb) = compB cs xa true) := by show _ = _; simp [rcell, rok, compB]
                    generalize compB cs xa true = cq at *
                    go_wp2_with fail
                    refine CM.out.mono ?_
                    rintro e w5 ⟨rfl, b5⟩
                    have F5 := hid (FX.out.later b5)
                    clear b5 CM
                    go_wp2_with fail
                    go_meet
                    exact ⟨congrArg Value.bool (HQ1.out.trans R.out).symm, congrArg Value.bool (HQC.out.trans RC.out).symm, congrArg (Value.int .i64) (congrArg Int.ofNat HNN.out.symm), F5.out⟩
                by_cases n23 : op = 23
                · subst n23
                  as_aux_lemma =>
                    have CM := hid (comp_any wq (.slice sa cs.length sc) (.slice ta rs.length tc) cs xa false (HC.out.later BQ.out) hcl)
                    have R : Hid (rok cs rs l.length (23, xa, xb) = compB cs xa false) := by show _ = _; simp [rok, compB]
                    have RC : Hid (rcell cs rs l.length (23, xa, xb) = compB cs xa false) := by show _ = _; simp [rcell, rok, compB]
                    generalize compB cs xa false = cq at *
                    go_wp2_with fail
                    refine CM.out.mono ?_
                    rintro e w5 ⟨rfl, b5⟩
                    have F5 := hid (FX.out.later b5)
                    clear b5 CM
                    go_wp2_with fail
                    go_meet
                    exact ⟨congrArg Value.bool (HQ1.out.trans R.out).symm, congrArg Value.bool (HQC.out.trans RC.out).symm, congrArg (Value.int .i64) (congrArg Int.ofNat HNN.out.symm), F5.out⟩
                by_cases n24 : op = 24
                · subst n24
                  as_aux_lemma =>
                    have CM := hid (comp_any wq (.slice sa cs.length sc) (.slice ta rs.length tc) cs xa true (HC.out.later BQ.out) hcl)
                    have R : Hid (rok cs rs l.length (24, xa, xb) = compB cs xa true) := by show _ = _; simp [rok, compB]
                    have RC : Hid (rcell cs rs l.length (24, xa, xb) = false) := by show _ = _; simp [rcell]
                    generalize compB cs xa true = cq at *
                    go_wp2_with fail
                    refine CM.out.mono ?_
                    rintro e w5 ⟨rfl, b5⟩
                    have F5 := hid (FX.out.later b5)
                    clear b5 CM
                    go_wp2_with fail
                    go_meet
                    exact ⟨congrArg Value.bool (HQ1.out.trans R.out).symm, congrArg Value.bool (HQC.out.trans RC.out).symm, congrArg (Value.int .i64) (congrArg Int.ofNat HNN.out.symm), F5.out⟩
                by_cases n25 : op = 25
                · subst n25
                  as_aux_lemma =>
                    by_cases h0 : xa = 0
                    · have R : Hid (rok cs rs l.length (25, xa, xb) = true) := by show _ = _; rw [h0]; simp [rok, inN]
                      have RC : Hid (rcell cs rs l.length (25, xa, xb) = false) := by show _ = _; simp [rcell]
                      go_wp2_with fail
                      go_meet
                      exact ⟨congrArg Value.bool (HQ1.out.trans R.out).symm, congrArg Value.bool (HQC.out.trans RC.out).symm, congrArg (Value.int .i64) (congrArg Int.ofNat HNN.out.symm), FX.out⟩
                    · by_cases h1 : xa = 1
                      · have R : Hid (rok cs rs l.length (25, xa, xb) = true) := by show _ = _; rw [h1]; simp [rok, inN]
                        have RC : Hid (rcell cs rs l.length (25, xa, xb) = false) := by show _ = _; simp [rcell]
                        have e0 : (xa == 0) = false := by simpa using h0
                        go_wp2_with fail
                        go_meet
                        exact ⟨congrArg Value.bool (HQ1.out.trans R.out).symm, congrArg Value.bool (HQC.out.trans RC.out).symm, congrArg (Value.int .i64) (congrArg Int.ofNat HNN.out.symm), FX.out⟩
                      · have R : Hid (rok cs rs l.length (25, xa, xb) = false) := by show _ = _; simp [rok, inN]; omega
                        have RC : Hid (rcell cs rs l.length (25, xa, xb) = false) := by show _ = _; simp [rcell]
                        have e0 : (xa == 0) = false := by simpa using h0
                        have e1 : (xa == 1) = false := by simpa using h1
                        go_wp2_with fail
                        go_meet
                        exact ⟨congrArg Value.bool (HQ1.out.trans R.out).symm, congrArg Value.bool (HQC.out.trans RC.out).symm, congrArg (Value.int .i64) (congrArg Int.ofNat HNN.out.symm), FX.out⟩
                by_cases n26 : op = 26
                · subst n26
                  as_aux_lemma =>
                    by_cases h0 : 0 ≤ xa
                    · by_cases h1 : xa < (rs.length : Int)
                      · have R : Hid (rok cs rs l.length (26, xa, xb) = true) := by show _ = _; simp [rok, inN, h0, h1]
                        have RC : Hid (rcell cs rs l.length (26, xa, xb) = false) := by show _ = _; simp [rcell]
                        go_wp2_with fail
                        go_meet
                        exact ⟨congrArg Value.bool (HQ1.out.trans R.out).symm, congrArg Value.bool (HQC.out.trans RC.out).symm, congrArg (Value.int .i64) (congrArg Int.ofNat HNN.out.symm), FX.out⟩
                      · have R : Hid (rok cs rs l.length (26, xa, xb) = false) := by show _ = _; simp [rok, inN, h0, h1]
                        have RC : Hid (rcell cs rs l.length (26, xa, xb) = false) := by show _ = _; simp [rcell]
                        go_wp2_with fail
                        go_meet
                        exact ⟨congrArg Value.bool (HQ1.out.trans R.out).symm, congrArg Value.bool (HQC.out.trans RC.out).symm, congrArg (Value.int .i64) (congrArg Int.ofNat HNN.out.symm), FX.out⟩
                    · have R : Hid (rok cs rs l.length (26, xa, xb) = false) := by show _ = _; simp [rok, inN, h0]
                      have RC : Hid (rcell cs rs l.length (26, xa, xb) = false) := by show _ = _; simp [rcell]
                      go_wp2_with fail
                      go_meet
                      exact ⟨congrArg Value.bool (HQ1.out.trans R.out).symm, congrArg Value.bool (HQC.out.trans RC.out).symm, congrArg (Value.int .i64) (congrArg Int.ofNat HNN.out.symm), FX.out⟩
                by_cases n27 : op = 27
                · subst n27
                  as_aux_lemma =>
                    by_cases h0 : 0 ≤ xa
                    · by_cases h1 : xa < (rs.length : Int)
                      · have R : Hid (rok cs rs l.length (27, xa, xb) = true) := by show _ = _; simp [rok, inN, h0, h1]
                        have RC : Hid (rcell cs rs l.length (27, xa, xb) = false) := by show _ = _; simp [rcell]
                        go_wp2_with fail
                        go_meet
                        exact ⟨congrArg Value.bool (HQ1.out.trans R.out).symm, congrArg Value.bool (HQC.out.trans RC.out).symm, congrArg (Value.int .i64) (congrArg Int.ofNat HNN.out.symm), FX.out⟩
                      · have R : Hid (rok cs rs l.length (27, xa, xb) = false) := by show _ = _; simp [rok, inN, h0, h1]
                        have RC : Hid (rcell cs rs l.length (27, xa, xb) = false) := by show _ = _; simp [rcell]
                        go_wp2_with fail
                        go_meet
                        exact ⟨congrArg Value.bool (HQ1.out.trans R.out).symm, congrArg Value.bool (HQC.out.trans RC.out).symm, congrArg (Value.int .i64) (congrArg Int.ofNat HNN.out.symm), FX.out⟩
                    · have R : Hid (rok cs rs l.length (27, xa, xb) = false) := by show _ = _; simp [rok, inN, h0]
                      have RC : Hid (rcell cs rs l.length (27, xa, xb) = false) := by show _ = _; simp [rcell]
                      go_wp2_with fail
                      go_meet
                      exact ⟨congrArg Value.bool (HQ1.out.trans R.out).symm, congrArg Value.bool (HQC.out.trans RC.out).symm, congrArg (Value.int .i64) (congrArg Int.ofNat HNN.out.symm), FX.out⟩
                by_cases n31 : op = 31
                · subst n31
                  as_aux_lemma =>
                    have RS := hid (shr_set cs xa)
                    have R : Hid (rok cs rs l.length (31, xa, xb) = isSet cs xa) := by show _ = _; simp [rok]
                    have RC : Hid (rcell cs rs l.length (31, xa, xb) = false) := by show _ = _; simp [rcell]
                    by_cases h0 : 0 ≤ xa
                    · go_wp2_with fail
                      go_meet
                      exact ⟨congrArg Value.bool (by rw [HQ1.out, R.out, ← RS.out, show min cs.length 32 = (min (cs.length : Int) 32).toNat by omega]), congrArg Value.bool (HQC.out.trans RC.out).symm, congrArg (Value.int .i64) (congrArg Int.ofNat HNN.out.symm), FX.out⟩
                    · have R0 : Hid (isSet cs xa = false) := by show _ = _; unfold isSet; simp [h0]
                      go_wp2_with fail
                      go_meet
                      exact ⟨congrArg Value.bool (by rw [HQ1.out, R.out, R0.out]), congrArg Value.bool (HQC.out.trans RC.out).symm, congrArg (Value.int .i64) (congrArg Int.ofNat HNN.out.symm), FX.out⟩
                by_cases n33 : op = 33
                · subst n33
                  as_aux_lemma =>
                    have CM := hid (comp_any wq (.slice sa cs.length sc) (.slice ta rs.length tc) cs xa false (HC.out.later BQ.out) hcl)
                    have R : Hid (rok cs rs l.length (33, xa, xb) = compB cs xa false) := by show _ = _; simp [rok, compB]
                    have RC : Hid (rcell cs rs l.length (33, xa, xb) = false) := by show _ = _; simp [rcell]
                    generalize compB cs xa false = cq at *
                    go_wp2_with fail
                    refine CM.out.mono ?_
                    rintro e w5 ⟨rfl, b5⟩
                    have F5 := hid (FX.out.later b5)
                    clear b5 CM
                    go_wp2_with fail
                    go_meet
                    exact ⟨congrArg Value.bool (HQ1.out.trans R.out).symm, congrArg Value.bool (HQC.out.trans RC.out).symm, congrArg (Value.int .i64) (congrArg Int.ofNat HNN.out.symm), F5.out⟩
                by_cases n34 : op = 34
                · subst n34
                  as_aux_lemma =>
                    have CM := hid (comp_any wq (.slice sa cs.length sc) (.slice ta rs.length tc) cs xa false (HC.out.later BQ.out) hcl)
                    have R : Hid (rok cs rs l.length (34, xa, xb) = compB cs xa false) := by show _ = _; simp [rok, compB]
                    have RC : Hid (rcell cs rs l.length (34, xa, xb) = false) := by show _ = _; simp [rcell]
                    generalize compB cs xa false = cq at *
                    go_wp2_with fail
                    refine CM.out.mono ?_
                    rintro e w5 ⟨rfl, b5⟩
                    have F5 := hid (FX.out.later b5)
                    clear b5 CM
                    go_wp2_with fail
                    go_meet
                    exact ⟨congrArg Value.bool (HQ1.out.trans R.out).symm, congrArg Value.bool (HQC.out.trans RC.out).symm, congrArg (Value.int .i64) (congrArg Int.ofNat HNN.out.symm), F5.out⟩
                as_aux_lemma =>
                  have e20 : (op == 20) = false := by simpa using n20
                  have e21 : (op == 21) = false := by simpa using n21
                  have e22 : (op == 22) = false := by simpa using n22
                  have e23 : (op == 23) = false := by simpa using n23
                  have e24 : (op == 24) = false := by simpa using n24
                  have e25 : (op == 25) = false := by simpa using n25
                  have e26 : (op == 26) = false := by simpa using n26
                  have e27 : (op == 27) = false := by simpa using n27
                  have e31 : (op == 31) = false := by simpa using n31
                  have e33 : (op == 33) = false := by simpa using n33
                  have e34 : (op == 34) = false := by simpa using n34
                  have R : Hid (rok cs rs l.length (op, xa, xb) = true) := by show _ = _; simp [rok, n20, n21, n22, n23, n24, n25, n26, n27, n31, n33, n34]
                  have RC : Hid (rcell cs rs l.length (op, xa, xb) = false) := by show _ = _; simp [rcell, n22, n23]
                  have RN : Hid (nn = 1) := by show _ = _; rw [HNN.out]; simp [rnum, n20, n21]
                  clear n20 n21 n22 n23 n24 n25 n26 n27 n31 n33 n34 HC HQ HI
                  go_wp2_with fail
                  go_meet
                  exact ⟨congrArg Value.bool (HQ1.out.trans R.out).symm, congrArg Value.bool (HQC.out.trans RC.out).symm, congrArg (Value.int .i64) (congrArg Int.ofNat RN.out.symm), FX.out⟩
              case rest =>
                obtain ⟨rfl, rfl, rfl, FX1⟩ := hcut
                clear FX j0
                go_upto_if 134 with fail
                go_cut [5] from 24 to 193 (fun s5 wx => Hid (FB w0 g7 g9 x s5 L1 wx))
                case first =>
                  clear HQ2 HL2 LL2 HQ3 HL3 LL3 HQ4 HL4 FIN AO AB HQ1 HQC HNN HKN LL1
                  as_aux_lemma =>
                    cases q1
                    case false =>
                      have R : Hid (ls ++ [([wC, dig k, wA], nn)] = L1) := by show _ = _; rw [HL1.out]; rfl
                      have a3 := AA.out
                      clear HL1
                      go_wp2_with (at_builtin; refine wpList_flaw w0 _ rfl (.tmp 135) (.tmp 140) rfl _ ls (by rfl) FX1.out.fl [wC, dig k, wA] nn _ rfl (by rfl) (by have := LL.out; omega) ?_; intro v' w' HF HK)
                      go_meet
                      exact (FX1.out.app HF.out HK.out).grown R.out
                    case true =>
                      have R : Hid (ls = L1) := by show _ = _; rw [HL1.out]; exact (List.append_nil _).symm
                      go_wp2_with fail
                      go_meet
                      exact FX1.out.grown R.out
                case rest =>
                  have FX2 := hcut
                  clear hcut FX1 LL HL1
                  go_upto_region 40 with fail
                  go_cut [159] from 24 to 193 (fun s159 wx => s159 = .bool q2 ∧ Hid (FB w0 g7 g9 x u5 L1 wx))
                  case first =>
                    clear HL2 LL2 HQ3 HL3 LL3 HQ4 HL4 FIN AO AA AB LL1 HNN HQ1
                    as_aux_lemma =>
                      cases qc
                      case false =>
                        have R : Hid (q2 = false) := by show _ = _; rw [HQ2.out]; rfl
                        clear HQ2 HQC
                        go_wp2_with (first | (go_quiet (fail)) | fail)
                        go_meet
                        exact ⟨by rw [R.out], by first | exact FX2.out | exact FX2.out.later ((Below.refl _ _).drew) | exact FX2.out.later (drewN_below _ _)⟩
                      case true =>
                        obtain ⟨-, hin⟩ := rcell_args HKN.out HQC.out.symm
                        have BQ := hid (B0.out.trans (FX2.out.fl.bel.mono B0.out.size))
                        obtain ⟨y0, y1⟩ := FX2.out.box X0.out X1.out
                        obtain ⟨i0, i1, i2, r1⟩ := FX2.out.cells
                        obtain ⟨j, bc, oc, hxa, hj, rfl, hw⟩ := wide_cell (HC.out.later BQ.out) hin
                        have hj0 : ¬ ((j : Int) < 0) := by omega
                        rw [hxa] at i1
                        generalize widthOf cs x.2.1 = wd at *
                        clear hin HQC
                        have HQ' : Hid (q2 = (true && !inW x.2.2 wd)) := HQ2.out
                        clear HQ2
                        by_cases hb0 : x.2.2 < 0
                        · have R : Hid (q2 = true) := by show _ = _; rw [HQ'.out]; unfold inW; simp [hb0]
                          generalize x.2.2 = xb at *
                          clear HQ' hxa
                          go_wp2_with (first | (go_quiet (fail)) | fail)
                          go_meet
                          exact ⟨by rw [R.out], by first | exact FX2.out | exact FX2.out.later ((Below.refl _ _).drew) | exact FX2.out.later (drewN_below _ _)⟩
                        · by_cases hb1 : wd ≤ x.2.2
                          · have R : Hid (q2 = true) := by show _ = _; rw [HQ'.out]; unfold inW; simp [hb0, hb1]
                            generalize x.2.2 = xb at *
                            clear HQ' hxa
                            go_wp2_with (first | (go_quiet (fail)) | fail)
                            go_meet
                            exact ⟨by rw [R.out], by first | exact FX2.out | exact FX2.out.later ((Below.refl _ _).drew) | exact FX2.out.later (drewN_below _ _)⟩
                          · have R : Hid (q2 = false) := by show _ = _; rw [HQ'.out]; unfold inW; simp; omega
                            generalize x.2.2 = xb at *
                            clear HQ' hxa
                            go_wp2_with (first | (go_quiet (fail)) | fail)
                            go_meet
                            exact ⟨by rw [R.out], by first | exact FX2.out | exact FX2.out.later ((Below.refl _ _).drew) | exact FX2.out.later (drewN_below _ _)⟩
                  case rest =>
                    obtain ⟨rfl, FX3⟩ := hcut
                    clear FX2 HQ2 HQC HQ1 HNN
                    go_upto_if 159 with fail
                    go_cut [5] from 24 to 193 (fun s5 wx => Hid (FB w0 g7 g9 x s5 L2 wx))
                    case first =>
                      clear LL2 HQ3 HL3 LL3 HQ4 HL4 FIN AO AA HKN
                      as_aux_lemma =>
                        cases q2
                        case false =>
                          have R : Hid (L1 = L2) := by show _ = _; rw [HL2.out]; exact (List.append_nil _).symm
                          go_wp2_with fail
                          go_meet
                          exact FX3.out.grown R.out
                        case true =>
                          have R : Hid (L1 ++ [([wC, dig k, wB], 1)] = L2) := by show _ = _; rw [HL2.out]; rfl
                          have a3 := AB.out
                          clear HL2
                          go_wp2_with (at_builtin; refine wpList_flaw w0 _ rfl (.tmp 160) (.tmp 164) rfl _ L1 (by rfl) FX3.out.fl [wC, dig k, wB] 1 _ rfl (by rfl) (by have := LL1.out; omega) ?_; intro v' w' HF HK)
                          go_meet
                          exact (FX3.out.app HF.out HK.out).grown R.out
                    case rest =>
                      have FX4 := hcut
                      clear hcut FX3 HL2 LL1
                      go_upto_region 42 with fail
                      go_cut [173] from 24 to 193 (fun s173 wx => s173 = .bool q3 ∧ Hid (FB w0 g7 g9 x u5 L2 wx))
                      case first =>
                        clear LL2 HL3 LL3 HQ4 HL4 FIN AO AA AB HKN
                        as_aux_lemma =>
                          obtain ⟨i0, i1, i2, r1⟩ := FX4.out.cells
                          have HQ' : Hid (q3 = (decide (args x.1 < 1) && !(x.2.1 == 0))) := HQ3.out
                          by_cases hx0 : x.2.1 = 0
                          · have R : Hid (q3 = false) := by show _ = _; rw [HQ'.out, hx0]; simp
                            have e1 : (x.2.1 != 0) = false := by rw [hx0]; rfl
                            generalize args x.1 = ax at *
                            generalize x.2.1 = xa at *
                            generalize x.2.2 = xb at *
                            by_cases ha : ax < 1
                            · clear HQ' hx0
                              go_wp2_with fail
                              go_meet
                              exact ⟨by rw [R.out], FX4.out⟩
                            · clear HQ' hx0
                              go_wp2_with fail
                              go_meet
                              exact ⟨by rw [R.out], FX4.out⟩
                          · have e1 : (x.2.1 != 0) = true := by simpa using hx0
                            have e0 : (x.2.1 == 0) = false := by simpa using hx0
                            by_cases ha : args x.1 < 1
                            · have R : Hid (q3 = true) := by show _ = _; rw [HQ'.out, e0]; simp [ha]
                              generalize args x.1 = ax at *
                              generalize x.2.1 = xa at *
                              generalize x.2.2 = xb at *
                              clear HQ' hx0 e0
                              go_wp2_with fail
                              go_meet
                              exact ⟨by rw [R.out], FX4.out⟩
                            · have R : Hid (q3 = false) := by show _ = _; rw [HQ'.out]; simp [ha]
                              generalize args x.1 = ax at *
                              generalize x.2.1 = xa at *
                              generalize x.2.2 = xb at *
                              clear HQ' hx0 e0
                              go_wp2_with fail
                              go_meet
                              exact ⟨by rw [R.out], FX4.out⟩
                      case rest =>
                        obtain ⟨rfl, FX5⟩ := hcut
                        clear FX4 HQ3
                        go_upto_if 173 with fail
                        go_cut [5] from 24 to 193 (fun s5 wx => Hid (FB w0 g7 g9 x s5 L3 wx))
                        case first =>
                          clear LL3 HQ4 HL4 FIN AO AB HKN
                          as_aux_lemma =>
                            cases q3
                            case false =>
                              have R : Hid (L2 = L3) := by show _ = _; rw [HL3.out]; exact (List.append_nil _).symm
                              go_wp2_with fail
                              go_meet
                              exact FX5.out.grown R.out
                            case true =>
                              have R : Hid (L2 ++ [([wC, dig k, wA], 1)] = L3) := by show _ = _; rw [HL3.out]; rfl
                              have a3 := AA.out
                              clear HL3
                              go_wp2_with (at_builtin; refine wpList_flaw w0 _ rfl (.tmp 174) (.tmp 178) rfl _ L2 (by rfl) FX5.out.fl [wC, dig k, wA] 1 _ rfl (by rfl) (by have := LL2.out; omega) ?_; intro v' w' HF HK)
                              go_meet
                              exact (FX5.out.app HF.out HK.out).grown R.out
                        case rest =>
                          have FX6 := hcut
                          clear hcut FX5 HL3 LL2
                          go_upto_region 44 with fail
                          go_cut [187] from 24 to 193 (fun s187 wx => s187 = .bool q4 ∧ Hid (FB w0 g7 g9 x u5 L3 wx))
                          case first =>
                            clear LL3 HL4 FIN AO AA AB HKN
                            as_aux_lemma =>
                              obtain ⟨i0, i1, i2, r1⟩ := FX6.out.cells
                              have HQ' : Hid (q4 = (decide (args x.1 < 2) && !(x.2.2 == 0))) := HQ4.out
                              by_cases hx0 : x.2.2 = 0
                              · have R : Hid (q4 = false) := by show _ = _; rw [HQ'.out, hx0]; simp
                                have e1 : (x.2.2 != 0) = false := by rw [hx0]; rfl
                                generalize args x.1 = ax at *
                                generalize x.2.1 = xa at *
                                generalize x.2.2 = xb at *
                                by_cases ha : ax < 2
                                · clear HQ' hx0
                                  go_wp2_with fail
                                  go_meet
                                  exact ⟨by rw [R.out], FX6.out⟩
                                · clear HQ' hx0
                                  go_wp2_with fail
                                  go_meet
                                  exact ⟨by rw [R.out], FX6.out⟩
                              · have e1 : (x.2.2 != 0) = true := by simpa using hx0
                                have e0 : (x.2.2 == 0) = false := by simpa using hx0
                                by_cases ha : args x.1 < 2
                                · have R : Hid (q4 = true) := by show _ = _; rw [HQ'.out, e0]; simp [ha]
                                  generalize args x.1 = ax at *
                                  generalize x.2.1 = xa at *
                                  generalize x.2.2 = xb at *
                                  clear HQ' hx0 e0
                                  go_wp2_with fail
                                  go_meet
                                  exact ⟨by rw [R.out], FX6.out⟩
                                · have R : Hid (q4 = false) := by show _ = _; rw [HQ'.out]; simp [ha]
                                  generalize args x.1 = ax at *
                                  generalize x.2.1 = xa at *
                                  generalize x.2.2 = xb at *
                                  clear HQ' hx0 e0
                                  go_wp2_with fail
                                  go_meet
                                  exact ⟨by rw [R.out], FX6.out⟩
                          case rest =>
                            obtain ⟨rfl, FX7⟩ := hcut
                            clear FX6 HQ4
                            as_aux_lemma =>
                              cases q4
                              case false =>
                                have R : Hid (L3 = longL l ++ insT cs rs l (k + 1)) := by show _ = _; rw [← FIN.out, HL4.out]; exact (List.append_nil _).symm
                                clear FIN HL4
                                go_wp2_with fail
                                go_roundg (l.length - (k + 1))
                                case measure => omega
                                case rel => exact ⟨k + 1, by omega, rfl, by go_num, FX7.out.fl.grown R.out⟩
                              case true =>
                                have R : Hid (L3 ++ [([wC, dig k, wB], 1)] = longL l ++ insT cs rs l (k + 1)) := by show _ = _; rw [← FIN.out, HL4.out]; rfl
                                have a3 := AB.out
                                clear FIN HL4
                                go_wp2_with (at_builtin; refine wpList_flaw w0 _ rfl (.tmp 188) (.tmp 192) rfl _ L3 (by rfl) FX7.out.fl [wC, dig k, wB] 1 _ rfl (by rfl) (by have := LL3.out; omega) ?_; intro v' w' HF HK)
                                go_roundg (l.length - (k + 1))
                                case measure => omega
                                case rel => exact ⟨k + 1, by omega, rfl, by go_num, HF.out.grown R.out⟩
      · as_aux_lemma =>
          have hki : ¬ ((k : Int) < (l.length : Int)) := by omega
          obtain rfl : k = l.length := by omega
          have HE : Hid (FL w0 u5 (errsL cs rs l) wo) := HK.out
          clear HK X0 X1 hk hlt
          by_cases hnil : errsL cs rs l = []
          · have HN := hid hnil
            rw [hnil] at HE
            obtain ⟨ga, gc, rfl⟩ := own_slice HE.out.own
            have DP := hid (rdepths_any wo (.slice la l.length lc) l (HI.out.later BW.out) (by omega))
            clear hnil
            go_wp2_with fail
            refine DP.out.mono ?_
            rintro e w10 ⟨r, q, rfl, hp, b10⟩
            have H10 := hid (HE.out.later b10)
            have B10 := hid (BW.out.trans (b10.mono BW.out.size))
            clear DP b10 HE
            rcases hp with ⟨nw, d, rfl, lb, -⟩ | ⟨rfl, rfl, nf⟩
            · have FN : Hid (ChkR cs rs l []) := .inr ⟨HN.out, .inl ⟨lb.fine nw, rfl⟩⟩
              have OW : Hid (w10.ownsRow w.heap.size 50 2 (.slice ga 0 gc) 0 (leafCells [])) := H10.out.own.mono B0.out.size
              clear lb nw HN H10
              go_wp2_with fail
              go_ret
              exact ⟨_, [], rfl, FN.out, OW.out, B10.out⟩
            · have FN : Hid (ChkR cs rs l [([wC], 12)]) := .inr ⟨HN.out, .inr ⟨nf, rfl⟩⟩
              obtain ⟨gv, hgv⟩ : ∃ gv, gv = Value.slice ga ([] : Leaves).length gc := ⟨_, rfl⟩
              have hgv2 : gv = Value.slice ga 0 gc := hgv
              rw [← hgv] at H10
              clear nf HN hgv
              go_wp2_with (at_builtin; refine wpList_flaw w0 _ rfl (.tmp 205) (.tmp 207) rfl _ [] (by rw [hgv2]; rfl) H10.out [wC] 12 _ (joinB_one _).symm (by rfl) (by simp) ?_; intro v' w' HF HK)
              go_ret
              exact ⟨_, [([wC], 12)], rfl, FN.out, HF.out.own.mono B0.out.size, B0.out.trans (HF.out.bel.mono B0.out.size)⟩
          · have FN : Hid (ChkR cs rs l (errsL cs rs l)) := .inl ⟨hnil, rfl⟩
            have hpos : 0 < (errsL cs rs l).length := List.length_pos_iff.2 hnil
            have hpi : (0 : Int) < ((errsL cs rs l).length : Int) := by omega
            obtain ⟨ga, gc, rfl⟩ := own_slice HE.out.own
            have PP : Hid (wo.ownsRow w.heap.size 50 2 (.slice ga (errsL cs rs l).length gc) (errsL cs rs l).length (leafCells (errsL cs rs l)) ∧ Below w.heap.size w wo) := ⟨HE.out.own.mono B0.out.size, BW.out⟩
            obtain ⟨L, hL⟩ : ∃ L, L = errsL cs rs l := ⟨_, rfl⟩
            rw [← hL] at FN PP hpi
            rw [← hL]
            clear HE hnil hpos hL
            go_wp2_with fail
            go_ret
            first | exact ⟨_, L, rfl, FN.out, PP.out⟩ | exact ⟨_, rfl, L, FN.out, PP.out⟩
end Go.Proofs.YtkhhiddemihnbaaDoor.Cw
