/- The law StrandWrites, walked. -/
import Derived.Test.YthngdaeiopgigaaDoorGc
import Derived.Test.YthngdaeiopgigaaDoorLe
import Derived.Test.YthngdaeiopgigaaDoorKh
namespace Go.Proofs.YthngdaeiopgigaaDoor
open Go.ChangeShapes Go.WideShapes Go.ChangeAt Go.RowKit
attribute [local go_sem ↓] Go.wp_at_zero Go.wp_at_succ
theorem env_of_k {w : World} {Ad : Nat → Addr} (h : K.Env w Ad) : Env w (Ad 3) (Ad 1) (Ad 4) (Ad 2) :=
  ⟨h.cell 3 (by decide) (by decide), h.cell 1 (by decide) (by decide), h.cell 4 (by decide) (by decide), h.cell 2 (by decide) (by decide)⟩
theorem gwrite_any (w : World) (v : Value) (most : Int) (hm : most ≤ 9223372036854775807) (xs : List (Itm × Value)) (aA aL : Addr) (hI : Its w v xs) (hok0 : ∀ x ∈ xs, x.1.Ok) (h60 : xs.length ≤ 60) :
    Calls Tryd.prog 14 #[.int .i64 most, v] w fun e w' => (∃ s c, e = .returned (.tuple #[.string s, .int .i64 c]) ∧ Wrote aA aL most.toNat xs s c) ∧ Below w.heap.size w w' := by
  by_cases h : most < 0
  · rw [show most.toNat = 0 by omega]
    exact write_neg w v most h xs aA aL hI hok0 h60
  · have := write_pos w v most.toNat (by omega) xs aA aL hI hok0 h60
    rwa [show ((most.toNat : Nat) : Int) = most by omega] at this
/-- Number, of a Blame around a sentinel. -/
theorem number_blame (Ad : Nat → Addr) (w : World) (v : Value) (s : ByteArray) (k : Nat) (hk : k < 18) (hE : K.Env w Ad) (hv : IsBlame w v s (Ad (k + 1))) :
    Calls Tryd.prog 15 #[v] w fun e w' => e = .returned (.int .i64 ((k : Int) + 1)) ∧ Below w.heap.size w w' := by
  obtain ⟨g, rfl, hg⟩ := hv
  have h := K.number_some Ad (.iface 96 (.pointer (some ⟨g, 0, none⟩))) [([s], k + 1)] 1 w hE
    (.blame 0 g s (.iface 113 (.pointer (some (Ad (k + 1))))) [([], k + 1)] (lt_of_block hg) (blk_cell hg 0) (blk_cell hg 1) (.leaf 0 (k + 1) ⟨by omega, by omega⟩)) (by omega) ⟨_, _, rfl⟩
  rw [show K.numOf ([([s], k + 1)].map Prod.snd) = (k : Int) + 1 from num_one k hk] at h
  exact h
where
  num_one : ∀ k, k < 18 → K.numOf [k + 1] = (k : Int) + 1 := by decide
set_option maxHeartbeats 3200000 in
set_option maxRecDepth 100000 in
theorem writes_any (w : World) (v : Value) (most : Int) (hmost : most ≤ 9223372036854775807) (xs : List (Itm × Value)) (Ad : Nat → Addr) (hK : K.Env w Ad) (hI : Its w v xs) (hl : xs.length ≤ 10000000000000) :
    Calls Tryd.prog 3 #[.int .i64 most, v] w fun e w' => e = .returned (.bool true) ∧ Below w.heap.size w w' := by
  have hE := env_of_k hK
  have HK := hid hK
  obtain ⟨aF, hF⟩ : ∃ aF, aF = Ad 3 := ⟨_, rfl⟩
  obtain ⟨aA, hA⟩ : ∃ aA, aA = Ad 1 := ⟨_, rfl⟩
  obtain ⟨aL, hL⟩ : ∃ aL, aL = Ad 4 := ⟨_, rfl⟩
  obtain ⟨aN, hN⟩ : ∃ aN, aN = Ad 2 := ⟨_, rfl⟩
  rw [← hF, ← hA, ← hL, ← hN] at hE
  have HA := hid hA
  have HL := hid hL
  clear hF hA hL hN hK
  have h3 := hE.lt
  obtain ⟨M, hM⟩ : ∃ M, M = most.toNat := ⟨_, rfl⟩
  have hMl : (M : Int) ≤ 9223372036854775807 := by omega
  have WC := hid (fun W (h : Its W v xs) => fun hok h60 => gwrite_any W v most hmost xs aA aL h hok h60)
  rw [← hM] at WC
  have NW := hid (fun W => newWriter_any most W)
  rw [← hM] at NW
  clear hM hmost
  obtain ⟨a, c, rfl, hlay⟩ := hI.lay
  go_enter Tryd.func3, Tryd.ntmps3
  go_wp2_with fail
  refine (awake_any w aF aA aL aN hE).mono ?_
  rintro e w1 ⟨rfl, hb1⟩
  go_wp2_with fail
  refine (heavy_any xs _ w1 hl (hI.later hb1)).mono ?_
  rintro e w1' ⟨rfl, rfl⟩
  cases hh : hvy xs with
  | true =>
    go_wp2
    go_ret
    exact ⟨rfl, hb1⟩
  | false =>
    obtain ⟨h60, hok⟩ := ok_of hh hI.nums
    clear hh
    go_wp2_with fail
    refine (NW.out _).mono ?_
    rintro e w2 ⟨rfl, hw2, hb2, hf2⟩
    have I2 : WInv w w2 w1.heap.size (.ok M []) := ⟨hw2, hb1.trans (hb2.mono hb1.size), fun k hk => Nat.le_trans hb1.size (hf2 k hk)⟩
    clear hw2 hb2 hf2
    clear hb1
    generalize w1.heap.size = bw at *
    go_wp2_with fail
    go_loopw [6] (fun i wr => ∃ k : Nat, i = .int .i64 k ∧ k ≤ xs.length ∧ WInv w wr bw (puts aA aL (.ok M []) (xs.take k))) (fun i _ => xs.length - (intOf i).toNat)
    case atStart => exact ⟨0, rfl, Nat.zero_le _, I2⟩
    case round =>
      obtain ⟨k, rfl, hk, hinv⟩ := hrel
      by_cases hlt : k < xs.length
      · obtain ⟨x, hx⟩ : ∃ x, xs[k]? = some x := ⟨_, List.getElem?_eq_getElem hlt⟩
        obtain ⟨ib, io, rfl, hc4⟩ := hlay.resolve_left (by rintro rfl; simp at hlt)
        obtain ⟨c0, c1, c2, c3⟩ := hc4 k x hx
        have hmem := List.mem_of_getElem? hx
        have hxo := hok x hmem
        have hbo := hI.bools x hmem
        have hbel := hinv.bel
        have hib : ib < w.heap.size := World.block_lt_of_cell? w _ c0
        have d0 := (hbel.cell (p := ⟨ib, _, none⟩) hib).trans c0
        have d1 := (hbel.cell (p := ⟨ib, _, none⟩) hib).trans c1
        have d2 := (hbel.cell (p := ⟨ib, _, none⟩) hib).trans c2
        have d3 := (hbel.cell (p := ⟨ib, _, none⟩) hib).trans c3
        have hbr := hbo.later hbel
        have hEr := hE.below h3 hbel
        have HTK : Hid (xs.take (k + 1) = xs.take k ++ [x]) := by show _ = _; rw [List.take_add_one, hx]; rfl
        obtain ⟨hml, hll⟩ := puts_pre aA aL hok h60 k M hMl
        have hP := hid (put_any bw _ x.1 x.2 hxo.fit aA aL wr hinv.wr (hEr.wpre hml hll) hbr)
        obtain ⟨va, vc, hv, _⟩ := hbr
        rw [hv] at d3 hP
        have HI := hid hinv
        clear hinv hbel hbo hxo hmem hx c0 c1 c2 c3 hEr hml hll hv
        go_wp2_with (go_at_call 12; refine (hP.out).mono ?_; rintro e w' ⟨rfl, hw', hs'⟩)
        go_roundw
        case rel =>
          refine ⟨k + 1, by go_num, by omega, ?_⟩
          rw [HTK.out, puts_snoc]
          exact HI.out.step hw' hs'
        case measure => simp [intOf]; omega
      · have hke : k = xs.length := by omega
        subst hke
        rw [List.take_length] at hinv
        cases hst : puts aA aL (.ok M []) xs with
        | bad s' a' =>
          rw [hst] at hinv
          go_wp2_with fail
          refine (bytes_bad bw s' a' _ hinv.wr).mono ?_
          rintro e w5 ⟨v5, rfl, hbl, hbel5⟩
          have B5 := hid (hinv.bel.trans (hbel5.mono hinv.bel.size))
          have IB := hid hbl
          have ST := hid hst
          obtain ⟨g5, rfl, hg5⟩ := hbl
          clear hinv hst hg5 hbel5 I2
          go_wp2_with fail
          refine (WC.out w5 (hI.later B5.out) hok h60).mono ?_
          rintro e w6 ⟨⟨s6, c6, rfl, hw6⟩, hb6⟩
          have B6 := hid (B5.out.trans (hb6.mono B5.out.size))
          have IB6 := hid (show IsBlame w6 (.iface 96 (.pointer (some ⟨g5, 0, none⟩))) s' a' by
            obtain ⟨g, e, hg⟩ := IB.out
            exact ⟨g, e, (hb6.block g (lt_of_block hg)).trans hg⟩)
          have E6 := hid (HK.out.later B6.out)
          have key : ∃ j : Nat, j < 18 ∧ s6 = ⟨#[]⟩ ∧ c6 = (j : Int) + 1 ∧ a' = Ad (j + 1) := by
            rcases hw6 with ⟨l, h, -, -⟩ | ⟨nm, h, hs, hc⟩ | ⟨nm, h, hs, hc⟩
            · rw [ST.out] at h; cases h
            · rw [ST.out] at h; cases h; exact ⟨0, by decide, hs, hc, HA.out⟩
            · rw [ST.out] at h; cases h; exact ⟨3, by decide, hs, hc, HL.out⟩
          clear hw6 hb6
          obtain ⟨j, hj, rfl, rfl, rfl⟩ := key
          have NB := hid (number_blame Ad w6 _ s' j hj E6.out IB6.out)
          clear hj
          go_wp2_with fail
          refine NB.out.mono ?_
          rintro e w7 ⟨rfl, hb7⟩
          have B7 := hid (B6.out.trans (hb7.mono B6.out.size))
          clear hb7
          go_wp2_with fail
          go_ret
          exact ⟨rfl, B7.out⟩
        | ok m' l' =>
          rw [hst] at hinv
          obtain ⟨rfl, -⟩ := puts_ok aA aL xs M m' [] l' hst
          go_wp2_with fail
          refine (bytes_ok bw _ _ _ hinv.wr).mono ?_
          rintro e w' ⟨rfl, rfl⟩
          have B5 := hid hinv.bel
          have ST := hid hst
          clear hinv hst I2
          go_wp2_with fail
          refine (WC.out wr (hI.later B5.out) hok h60).mono ?_
          rintro e w6 ⟨⟨s6, c6, rfl, hw6⟩, hb6⟩
          have B6 := hid (B5.out.trans (hb6.mono B5.out.size))
          have key : s6 = ⟨l'.toArray⟩ ∧ c6 = 0 := by
            rcases hw6 with ⟨l, h, hs, hc⟩ | ⟨nm, h, -, -⟩ | ⟨nm, h, -, -⟩
            · rw [ST.out] at h; cases h; exact ⟨hs, hc⟩
            · rw [ST.out] at h; cases h
            · rw [ST.out] at h; cases h
          clear hw6 hb6
          obtain ⟨rfl, rfl⟩ := key
          generalize (⟨l'.toArray⟩ : ByteArray) = t at *
          go_wp2_with fail
          refine (K.number_nil _).mono ?_
          rintro e w' ⟨rfl, rfl⟩
          go_wp2_with fail
          go_ret
          exact ⟨rfl, B6.out⟩
end Go.Proofs.YthngdaeiopgigaaDoor
