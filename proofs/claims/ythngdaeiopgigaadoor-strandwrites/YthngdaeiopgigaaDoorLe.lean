/- The law StrandBounds, walked. -/
import Derived.Test.YthngdaeiopgigaaDoorLd
namespace Go.Proofs.YthngdaeiopgigaaDoor
open Go.ChangeShapes Go.WideShapes Go.ChangeAt Go.RowKit
attribute [local go_sem ↓] Go.wp_at_zero Go.wp_at_succ
theorem is_val (v : Value) (b : Addr) (w : World) (h : v = .iface 113 (.pointer (some b)) ∨ ∃ g s, v = .iface 96 (.pointer (some ⟨g, 0, none⟩)) ∧ w.heap[g]? = some (.cells #[.string s, .iface 113 (.pointer (some b))] 61 (0, 0))) :
    Calls Tryd.prog 22 #[v, .iface 113 (.pointer (some b))] w fun e w' => e = .returned (.bool true) ∧ w' = w := by
  rcases h with rfl | ⟨g, s, rfl, hg⟩
  · exact is_same' b w
  · exact is_blame' g s b w hg
set_option maxHeartbeats 6400000 in
set_option maxRecDepth 100000 in
theorem bounds_any (w : World) (v : Value) (xs : List (Itm × Value)) (aF aA aL aN : Addr) (hE : Env w aF aA aL aN) (hI : Its w v xs) (hl : xs.length ≤ 10000000000000) :
    Calls Tryd.prog 8 #[v] w fun e w' => e = .returned (.bool true) ∧ Below w.heap.size w w' := by
  have h3 := hE.lt
  obtain ⟨a, c, rfl, hlay⟩ := hI.lay
  go_enter Tryd.func8, Tryd.ntmps8
  go_wp2_with fail
  refine (awake_any w aF aA aL aN hE).mono ?_
  rintro e w1 ⟨rfl, hb1⟩
  go_wp2_with fail
  refine (heavy_any xs _ w1 hl (hI.later hb1)).mono ?_
  rintro e w1' ⟨rfl, rfl⟩
  cases hh : hvy xs with
  | true =>
    go_wp2
    go_ret
    exact ⟨rfl, hb1⟩
  | false =>
    obtain ⟨h60, hok⟩ := ok_of hh hI.nums
    clear hh
    go_wp2_with fail
    refine (newWriter_any 1048576 _).mono ?_
    rintro e w2 ⟨rfl, hw2, hb2, hf2⟩
    have I2 : WInv w w2 w1.heap.size (.ok 1048576 []) := ⟨hw2, hb1.trans (hb2.mono hb1.size), fun k hk => Nat.le_trans hb1.size (hf2 k hk)⟩
    clear hw2 hb2 hf2
    have hsz1 := hb1.size
    clear hb1
    generalize w1.heap.size = bw at *
    go_wp2_with fail
    go_loopw [4] (fun i wr => ∃ k : Nat, i = .int .i64 k ∧ k ≤ xs.length ∧ WInv w wr bw (puts aA aL (.ok 1048576 []) (xs.take k))) (fun i _ => xs.length - (intOf i).toNat)
    case atStart => exact ⟨0, rfl, Nat.zero_le _, I2⟩
    case round =>
      obtain ⟨k, rfl, hk, hinv⟩ := hrel
      by_cases hlt : k < xs.length
      · obtain ⟨x, hx⟩ : ∃ x, xs[k]? = some x := ⟨_, List.getElem?_eq_getElem hlt⟩
        obtain ⟨ib, io, rfl, hc4⟩ := hlay.resolve_left (by rintro rfl; simp at hlt)
        obtain ⟨c0, c1, c2, c3⟩ := hc4 k x hx
        have hmem := List.mem_of_getElem? hx
        have hxo := hok x hmem
        have hbo := hI.bools x hmem
        have hbel := hinv.bel
        have hib : ib < w.heap.size := World.block_lt_of_cell? w _ c0
        have d0 := (hbel.cell (p := ⟨ib, _, none⟩) hib).trans c0
        have d1 := (hbel.cell (p := ⟨ib, _, none⟩) hib).trans c1
        have d2 := (hbel.cell (p := ⟨ib, _, none⟩) hib).trans c2
        have d3 := (hbel.cell (p := ⟨ib, _, none⟩) hib).trans c3
        have hbr := hbo.later hbel
        have hEr := hE.below h3 hbel
        have HTK : Hid (xs.take (k + 1) = xs.take k ++ [x]) := by show _ = _; rw [List.take_add_one, hx]; rfl
        obtain ⟨hml, hll⟩ := puts_pre aA aL hok h60 k 1048576 (by decide)
        have hP := hid (put_any bw _ x.1 x.2 hxo.fit aA aL wr hinv.wr (hEr.wpre hml hll) hbr)
        obtain ⟨va, vc, hv, _⟩ := hbr
        rw [hv] at d3 hP
        have HI := hid hinv
        clear hinv hbel hbo hxo hmem hx c0 c1 c2 c3 hEr hml hll hv
        go_wp2_with (go_at_call 12; refine (hP.out).mono ?_; rintro e w' ⟨rfl, hw', hs'⟩)
        go_roundw
        case rel =>
          refine ⟨k + 1, by go_num, by omega, ?_⟩
          rw [HTK.out, puts_snoc]
          exact HI.out.step hw' hs'
        case measure => simp [intOf]; omega
      · have hke : k = xs.length := by omega
        subst hke
        rw [List.take_length] at hinv
        cases hst : puts aA aL (.ok 1048576 []) xs with
        | bad s' a' =>
          rw [hst] at hinv
          obtain rfl := puts_bad_arg aA aL xs 1048576 [] s' a' hok (by simp; omega) hst
          go_wp2_with fail
          refine (bytes_bad bw s' a' _ hinv.wr).mono ?_
          rintro e w5 ⟨v5, rfl, ⟨g5, rfl, hg5⟩, hbel5⟩
          have I5 := hinv.new hbel5
          go_wp2_with fail
          refine (byte_bad bw 1 s' a' _ I5.wr).mono ?_
          rintro e w6 ⟨rfl, rfl⟩
          go_wp2_with fail
          refine (bytes_bad bw s' a' _ I5.wr).mono ?_
          rintro e w7 ⟨v7, rfl, ⟨g7, rfl, hg7⟩, hbel7⟩
          have I7 := I5.new hbel7
          have k1 := (hE.below h3 I7.bel).c1
          go_wp2_with (go_at_call 22; refine (is_blame g7 s' a' _ hg7).mono ?_; rintro e w8 ⟨rfl, rfl⟩)
          go_ret
          exact ⟨rfl, I7.bel⟩
        | ok m' l' =>
          rw [hst] at hinv
          have hln := (puts_len aA aL xs (.ok 1048576 []) hok).1
          rw [hst] at hln
          have hl1 : l'.length ≤ 60600 := by simp [WS.len] at hln; omega
          obtain ⟨hm', r, hr, hlr⟩ := puts_ok aA aL xs 1048576 m' [] l' hst
          simp at hlr
          subst hlr
          go_wp2_with fail
          refine (bytes_ok bw _ _ _ hinv.wr).mono ?_
          rintro e w' ⟨rfl, rfl⟩
          have hbl := hinv.bel
          clear hinv I2 hln hm' hst hk hlt
          go_wp2_with fail
          refine (newWriter_any _ _).mono ?_
          rintro e w3 ⟨rfl, hw3, hb3, hf3⟩
          go_wp2_with fail
          refine (newWriter_any _ _).mono ?_
          rintro e w4 ⟨rfl, hw4, hb4, hf4⟩
          have T4 : TwoW w w4 wr.heap.size w3.heap.size (.ok l'.length []) (.ok (l'.length - 1) []) := by
            rw [Int.toNat_natCast] at hw3
            rw [show ((l'.length : Int) - 1).toNat = l'.length - 1 by omega] at hw4
            have e1 := hbl.size
            have e2 := hb3.size
            have hs := foot_same (hb4.block wr.heap.size hw3.foots.lt)
            refine ⟨(hbl.trans (hb3.mono e1)).trans (hb4.mono (by omega)), hw3.new hb4, hw4, fun k h1 h2 => ?_, fun k hk => ?_, fun k hk => ?_⟩
            · have e3 := hw3.foots k ((hs k).1 h1)
              have e4 := hf4 k h2
              omega
            · have := hf3 k ((hs k).1 hk); omega
            · have := hf4 k hk; omega
          clear hw3 hb3 hf3 hw4 hb4 hf4 hbl
          generalize wr.heap.size = ba at *
          generalize w3.heap.size = bb at *
          go_wp2_with fail
          go_loopw [11] (fun i wx => ∃ (k : Nat), i = .int .i64 k ∧ k ≤ xs.length ∧ TwoW w wx ba bb (puts aA aL (.ok l'.length []) (xs.take k)) (puts aA aL (.ok (l'.length - 1) []) (xs.take k))) (fun i _ => xs.length - (intOf i).toNat)
          case atStart => exact ⟨0, rfl, Nat.zero_le _, T4⟩
          case round =>
            clear T4
            obtain ⟨k, rfl, hk, hT⟩ := hrel
            by_cases hlt : k < xs.length
            · obtain ⟨x, hx⟩ : ∃ x, xs[k]? = some x := ⟨_, List.getElem?_eq_getElem hlt⟩
              obtain ⟨ib, io, rfl, hc4⟩ := hlay.resolve_left (by rintro rfl; simp at hlt)
              obtain ⟨c0, c1, c2, c3⟩ := hc4 k x hx
              have hmem := List.mem_of_getElem? hx
              have hxo := (hok x hmem).fit
              have hbo := hI.bools x hmem
              have hib : ib < w.heap.size := World.block_lt_of_cell? w _ c0
              obtain ⟨va, vc, hv, _⟩ := id hbo
              rw [hv] at c3 hbo
              have HTK : Hid (xs.take (k + 1) = xs.take k ++ [x]) := by show _ = _; rw [List.take_add_one, hx]; rfl
              obtain ⟨hml, hll⟩ := puts_pre aA aL hok h60 k l'.length (by omega)
              obtain ⟨hmr, hlr⟩ := puts_pre aA aL hok h60 k (l'.length - 1) (by omega)
              have HA := hid (put_any ba _ x.1 (.slice va x.1.fl.length vc) hxo aA aL wr hT.wa ((hE.below h3 hT.bel).wpre hml hll) (hbo.later hT.bel))
              have d0 := (hT.bel.cell (p := ⟨ib, io + k * 4, none⟩) hib).trans c0
              have d1 := (hT.bel.cell (p := ⟨ib, io + k * 4 + 1, none⟩) hib).trans c1
              have d2 := (hT.bel.cell (p := ⟨ib, io + k * 4 + 2, none⟩) hib).trans c2
              have d3 := (hT.bel.cell (p := ⟨ib, io + k * 4 + 3, none⟩) hib).trans c3
              have HT := hid hT
              clear hT hv hx hml hll
              go_wp2_with fail
              refine HA.out.mono ?_
              rintro e w5 ⟨rfl, hw5, hs5⟩
              have T5 := HT.out.stepA hw5 hs5
              have HB := hid (put_any bb _ x.1 (.slice va x.1.fl.length vc) hxo aA aL w5 T5.wb ((hE.below h3 T5.bel).wpre hmr hlr) (hbo.later T5.bel))
              have e0 := (T5.bel.cell (p := ⟨ib, io + k * 4, none⟩) hib).trans c0
              have e1 := (T5.bel.cell (p := ⟨ib, io + k * 4 + 1, none⟩) hib).trans c1
              have e2 := (T5.bel.cell (p := ⟨ib, io + k * 4 + 2, none⟩) hib).trans c2
              have e3 := (T5.bel.cell (p := ⟨ib, io + k * 4 + 3, none⟩) hib).trans c3
              have HT5 := hid T5
              clear T5 HT HA hw5 hs5 d0 d1 d2 d3 hmr hlr
              go_wp2_with fail
              refine HB.out.mono ?_
              rintro e w6 ⟨rfl, hw6, hs6⟩
              have T6 := HT5.out.stepB hw6 hs6
              rw [← puts_snoc, ← puts_snoc, ← HTK.out] at T6
              have HT6 := hid T6
              clear T6 HT5 HB hw6 hs6 e0 e1 e2 e3
              go_wp2
              exact ⟨⟨k + 1, by go_num, by omega, HT6.out⟩, by simp [intOf]; omega⟩
            · have hke : k = xs.length := by omega
              subst hke
              rw [List.take_length, puts_fit aA aL xs l'.length [] l' hr (by simp)] at hT
              simp only [List.nil_append] at hT
              go_wp2_with fail
              refine (bytes_ok ba _ _ _ hT.wa).mono ?_
              rintro e w5 ⟨rfl, rfl⟩
              go_wp2_with fail
              by_cases h0 : l' = []
              · subst h0
                rw [puts_fit aA aL xs (([] : List UInt8).length - 1) [] [] hr (by simp)] at hT
                refine (bytes_ok bb _ _ _ hT.wb).mono ?_
                rintro e w6 ⟨rfl, rfl⟩
                go_wp2_with fail
                refine (num_nil 3 (by unfold I64; omega) _).mono ?_
                rintro e w7 ⟨rfl, hb7⟩
                have B7 := hT.bel.trans (hb7.mono hT.bel.size)
                have E7 := hE.below h3 B7
                go_wp2_with fail
                refine (bytes_nil aN _ E7.c3).mono ?_
                rintro e w8 ⟨rfl, n8, hw8⟩
                have B8 : Below w.heap.size w w8 := by rw [hw8]; exact B7.drewN n8
                have E8 := hE.below h3 B8
                have k2 := E8.c2
                have k3 := E8.c3
                clear hw8 hT hb7 E7 E8 hE hr B7
                go_wp2_with fail
                go_quiet ((first | (go_at_call 22; exact Calls.quiet_of_same (is_same' _ _)) | (go_at_call 21; exact Calls.quiet_of_same (end_nil aN _ (cell_drewN k3 _))) | (go_at_call 20; exact Calls.quiet_of_same (left_nil _)) | (go_at_call 27; exact Calls.quiet_of_same (rbyte_nil _)) | (go_at_call 28; exact Calls.quiet_of_same (rcount_nil _)) | (go_at_call 29; exact Calls.quiet_of_same (rnum_nil _)) | (go_at_call 30; exact Calls.quiet_of_same (rtext_nil _ _)) | (go_at_call 31; exact Calls.quiet_of_same (rflags_nil _ _)) | (go_at_call 32; exact Calls.quiet_of_same (rbits_nil _))))
                go_wp2
                go_ret
                exact ⟨rfl, B8.drewN _⟩
              · have hpos := List.length_pos_iff.2 h0
                obtain ⟨s2, hs2⟩ := puts_over aA aL xs (l'.length - 1) [] l' hr (by simp) (by simp; omega)
                rw [hs2] at hT
                refine (bytes_bad bb _ _ _ hT.wb).mono ?_
                rintro e w6 ⟨v6, rfl, ⟨g6, rfl, hg6⟩, hbel6⟩
                have T6 := hT.new hbel6
                go_wp2_with fail
                refine (num_nil 3 (by unfold I64; omega) _).mono ?_
                rintro e w7 ⟨rfl, hb7⟩
                have B7 := T6.bel.trans (hb7.mono T6.bel.size)
                have E7 := hE.below h3 B7
                have hg7 := (hb7.block g6 (lt_of_block hg6)).trans hg6
                go_wp2_with fail
                refine (bytes_nil aN _ E7.c3).mono ?_
                rintro e w8 ⟨rfl, n8, hw8⟩
                have B8 : Below w.heap.size w w8 := by rw [hw8]; exact B7.drewN n8
                have E8 := hE.below h3 B8
                have k2 := E8.c2
                have k3 := E8.c3
                have hg8 : w8.heap[g6]? = some (.cells #[.string s2, .iface 113 (.pointer (some aL))] 61 (0, 0)) := by rw [hw8]; exact hg7
                have hz : ((l'.length : Int) == 0) = false := beq_eq_false_iff_ne.2 (by omega)
                clear hw8 hT hb7 E7 E8 hE hr B7 hg7 hg6 hbel6 T6 hs2 h0
                go_wp2_with fail
                go_quiet ((first | (go_at_call 22; exact Calls.quiet_of_same (is_val _ _ _ (by first | exact .inl rfl | exact .inr ⟨g6, s2, rfl, hg8⟩))) | (go_at_call 21; exact Calls.quiet_of_same (end_nil aN _ (cell_drewN k3 _))) | (go_at_call 20; exact Calls.quiet_of_same (left_nil _)) | (go_at_call 27; exact Calls.quiet_of_same (rbyte_nil _)) | (go_at_call 28; exact Calls.quiet_of_same (rcount_nil _)) | (go_at_call 29; exact Calls.quiet_of_same (rnum_nil _)) | (go_at_call 30; exact Calls.quiet_of_same (rtext_nil _ _)) | (go_at_call 31; exact Calls.quiet_of_same (rflags_nil _ _)) | (go_at_call 32; exact Calls.quiet_of_same (rbits_nil _))))
                go_wp2
                go_ret
                exact ⟨rfl, B8.drewN _⟩
end Go.Proofs.YthngdaeiopgigaaDoor
