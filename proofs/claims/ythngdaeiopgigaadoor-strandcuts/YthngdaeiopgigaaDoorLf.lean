/- The law StrandCuts, walked. -/
import Derived.Test.YthngdaeiopgigaaDoorMe
namespace Go.Proofs.YthngdaeiopgigaaDoor
open Go.ChangeShapes Go.WideShapes Go.ChangeAt Go.RowKit
attribute [local go_sem ↓] Go.wp_at_zero Go.wp_at_succ
/-- Where a reader of bytes that were cut off stands: it has read all so far, and more is cut off than is left; or it is wrong. -/
def Ph (aF : Addr) (xs : List (Itm × Value)) (k : Nat) (rest : List UInt8) (b : Bool) (st : RS) : Prop :=
  (b = false ∧ st = ⟨rest, none⟩ ∧ ∃ R, encs (xs.drop k) = some R ∧ ∃ m, rest = R.take m ∧ m < R.length) ∨ ∃ s, st = ⟨rest, some (s, aF)⟩
theorem ph_rest {aF : Addr} {xs : List (Itm × Value)} {k : Nat} {rest : List UInt8} {b : Bool} {st : RS} (h : Ph aF xs k rest b st) : st.rest = rest := by
  rcases h with ⟨_, rfl, _⟩ | ⟨s, rfl⟩ <;> rfl
theorem ph_rest' {aF : Addr} {xs : List (Itm × Value)} {k : Nat} {rest : List UInt8} {x : Itm} {y : Itm} {b : Bool} {st : RS} (h : ∀ b', (b' = (b || !decide (y = x.told))) → Ph aF xs k rest b' st) : st.rest = rest := ph_rest (h _ rfl)
theorem ph_step {aF : Addr} {xs : List (Itm × Value)} {k : Nat} {rest : List UInt8} {b : Bool} {st : RS} {x : Itm × Value} (hx : xs[k]? = some x) (hxo : x.1.Ok) (h : Ph aF xs k rest b st) :
    ∃ y rest' st', RS.get aF x.1.asked st = (y, st') ∧ rest'.length ≤ rest.length ∧ y.fl.length ≤ 100000 ∧ (b = true → y = zeroI x.1.kind ∧ rest' = rest) ∧ ∀ b', (b' = (b || !decide (y = x.1.told))) → Ph aF xs (k + 1) rest' b' st' := by
  have hka : x.1.asked.kind = x.1.kind := by unfold Itm.asked; split; (rename_i h; exact h.symm); split; (rename_i h; exact h.symm); rfl
  rcases h with ⟨rfl, rfl, R, hR, m, rfl, hm⟩ | ⟨s, rfl⟩
  · rw [drop_cons hx] at hR
    obtain ⟨e, R', he, hR', rfl⟩ := encs_cons hR
    by_cases hme : e.length ≤ m
    · rw [show (e ++ R').take m = e ++ R'.take (m - e.length) from by rw [List.take_append, List.take_of_length_le hme]]
      rw [List.length_append] at hm
      refine ⟨x.1.told, R'.take (m - e.length), _, get_enc x.1 hxo e _ aF he, by rw [List.length_append]; omega, told_len hxo, fun h => (by cases h), fun b' hb' => .inl ⟨?_, rfl, R', hR', _, rfl, by omega⟩⟩
      rw [hb']; simp
    · rw [show (e ++ R').take m = e.take m from by rw [List.take_append, show m - e.length = 0 by omega]; simp]
      obtain ⟨s, hs⟩ := get_cut x.1 hxo e m aF he (by omega)
      exact ⟨_, e.take m, _, hs, Nat.le_refl _, by simp [zeroI], fun h => (by cases h), fun _ _ => .inr ⟨s, rfl⟩⟩
  · refine ⟨_, rest, _, get_err x.1.asked (asked_kind hxo) rest (s, aF) aF, Nat.le_refl _, by simp [zeroI], fun _ => ⟨by rw [hka], rfl⟩, fun _ _ => .inr ⟨s, rfl⟩⟩
theorem cut_at (a : Int) (n : Nat) (hn : 0 < n) (hl : n ≤ 60600) : ∃ k : Nat, wrap64 ((IntKind.u64.wrap a).tmod (n : Int)) = (k : Int) ∧ k < n := by
  have h0 : 0 ≤ IntKind.u64.wrap a := by rw [IntKind.wrap_u64]; exact Int.emod_nonneg _ (by decide)
  obtain ⟨m, hm⟩ := Int.eq_ofNat_of_zero_le h0
  rw [hm]
  have e : (m : Int).tmod (n : Int) = ((m % n : Nat) : Int) := rfl
  have hlt := Nat.mod_lt m hn
  exact ⟨m % n, by rw [e]; exact IntWalk.wrap64_in _ (by omega), hlt⟩
structure Ch (W0 W : World) : Prop where
  bel : Below W0.heap.size W0 W
theorem Ch.new {W0 W W' : World} (h : Ch W0 W) (hb : Below W.heap.size W W') : Ch W0 W' := ⟨h.bel.trans (hb.mono h.bel.size)⟩
theorem Ch.drew {W0 : World} : Ch W0 W0.drew := ⟨(Below.refl _ _).drew⟩
theorem Ch.drewN {W0 W : World} (h : Ch W0 W) (n : Nat) : Ch W0 (W.drewN n) := ⟨h.bel.drewN n⟩
theorem Ch.drew1 {W0 W : World} (h : Ch W0 W) : Ch W0 W.drew := ⟨h.bel.drew⟩
theorem ch8 {W0 W : World} {ib i0 i1 i2 i3 by_ : Nat} {u0 u1 u2 u3 v0 v1 v2 v3 : Value} (h : Ch W0 W) (e0 : W0.cell? ⟨ib, i0, none⟩ = some u0) (e1 : W0.cell? ⟨ib, i1, none⟩ = some u1) (e2 : W0.cell? ⟨ib, i2, none⟩ = some u2) (e3 : W0.cell? ⟨ib, i3, none⟩ = some u3) (y0 : W0.cell? ⟨by_, 0, none⟩ = some v0) (y1 : W0.cell? ⟨by_, 1, none⟩ = some v1) (y2 : W0.cell? ⟨by_, 2, none⟩ = some v2) (y3 : W0.cell? ⟨by_, 3, none⟩ = some v3) :
    W.cell? ⟨ib, i0, none⟩ = some u0 ∧ W.cell? ⟨ib, i1, none⟩ = some u1 ∧ W.cell? ⟨ib, i2, none⟩ = some u2 ∧ W.cell? ⟨ib, i3, none⟩ = some u3 ∧ W.cell? ⟨by_, 0, none⟩ = some v0 ∧ W.cell? ⟨by_, 1, none⟩ = some v1 ∧ W.cell? ⟨by_, 2, none⟩ = some v2 ∧ W.cell? ⟨by_, 3, none⟩ = some v3 := by
  have hib : ib < W0.heap.size := World.block_lt_of_cell? W0 _ e0
  have hby : by_ < W0.heap.size := World.block_lt_of_cell? W0 _ y0
  exact ⟨(h.bel.cell (p := ⟨ib, _, none⟩) hib).trans e0, (h.bel.cell (p := ⟨ib, _, none⟩) hib).trans e1, (h.bel.cell (p := ⟨ib, _, none⟩) hib).trans e2, (h.bel.cell (p := ⟨ib, _, none⟩) hib).trans e3, (h.bel.cell (p := ⟨by_, _, none⟩) hby).trans y0, (h.bel.cell (p := ⟨by_, _, none⟩) hby).trans y1, (h.bel.cell (p := ⟨by_, _, none⟩) hby).trans y2, (h.bel.cell (p := ⟨by_, _, none⟩) hby).trans y3⟩
set_option maxHeartbeats 3200000 in
set_option maxRecDepth 100000 in
theorem cuts_any (w : World) (v : Value) (at_ : Int) (xs : List (Itm × Value)) (aF aA aL aN : Addr) (hE : Env w aF aA aL aN) (hI : Its w v xs) (hl : xs.length ≤ 10000000000000) :
    Calls Tryd.prog 7 #[v, .int .i64 at_] w fun e w' => e = .returned (.bool true) ∧ Below w.heap.size w w' := by
  have h3 := hE.lt
  obtain ⟨a, c, rfl, hlay⟩ := hI.lay
  go_enter Tryd.func7, Tryd.ntmps7
  go_wp2_with fail
  refine (awake_any w aF aA aL aN hE).mono ?_
  rintro e w1 ⟨rfl, hb1⟩
  go_wp2_with fail
  refine (heavy_any xs _ w1 hl (hI.later hb1)).mono ?_
  rintro e w1' ⟨rfl, rfl⟩
  cases hh : hvy xs with
  | true =>
    go_wp2
    go_ret
    exact ⟨rfl, hb1⟩
  | false =>
    obtain ⟨h60, hok⟩ := ok_of hh hI.nums
    clear hh
    go_wp2_with fail
    refine (newWriter_any 1048576 _).mono ?_
    rintro e w2 ⟨rfl, hw2, hb2, hf2⟩
    have I2 : WInv w w2 w1.heap.size (.ok 1048576 []) := ⟨hw2, hb1.trans (hb2.mono hb1.size), fun k hk => Nat.le_trans hb1.size (hf2 k hk)⟩
    clear hw2 hb2 hf2
    have hsz1 := hb1.size
    clear hb1
    generalize w1.heap.size = bw at *
    go_wp2_with fail
    go_loopw [6] (fun i wr => ∃ k : Nat, i = .int .i64 k ∧ k ≤ xs.length ∧ WInv w wr bw (puts aA aL (.ok 1048576 []) (xs.take k))) (fun i _ => xs.length - (intOf i).toNat)
    case atStart => exact ⟨0, rfl, Nat.zero_le _, I2⟩
    case round =>
      obtain ⟨k, rfl, hk, hinv⟩ := hrel
      by_cases hlt : k < xs.length
      · obtain ⟨x, hx⟩ : ∃ x, xs[k]? = some x := ⟨_, List.getElem?_eq_getElem hlt⟩
        obtain ⟨ib, io, rfl, hc4⟩ := hlay.resolve_left (by rintro rfl; simp at hlt)
        obtain ⟨c0, c1, c2, c3⟩ := hc4 k x hx
        have hmem := List.mem_of_getElem? hx
        have hxo := hok x hmem
        have hbo := hI.bools x hmem
        have hbel := hinv.bel
        have hib : ib < w.heap.size := World.block_lt_of_cell? w _ c0
        have d0 := (hbel.cell (p := ⟨ib, _, none⟩) hib).trans c0
        have d1 := (hbel.cell (p := ⟨ib, _, none⟩) hib).trans c1
        have d2 := (hbel.cell (p := ⟨ib, _, none⟩) hib).trans c2
        have d3 := (hbel.cell (p := ⟨ib, _, none⟩) hib).trans c3
        have hbr := hbo.later hbel
        have hEr := hE.below h3 hbel
        have HTK : Hid (xs.take (k + 1) = xs.take k ++ [x]) := by show _ = _; rw [List.take_add_one, hx]; rfl
        obtain ⟨hml, hll⟩ := puts_pre aA aL hok h60 k 1048576 (by decide)
        have hP := hid (put_any bw _ x.1 x.2 hxo.fit aA aL wr hinv.wr (hEr.wpre hml hll) hbr)
        obtain ⟨va, vc, hv, _⟩ := hbr
        rw [hv] at d3 hP
        have HI := hid hinv
        clear hinv hbel hbo hxo hmem hx c0 c1 c2 c3 hEr hml hll hv
        go_wp2_with (go_at_call 12; refine (hP.out).mono ?_; rintro e w' ⟨rfl, hw', hs'⟩)
        go_roundw
        case rel =>
          refine ⟨k + 1, by go_num, by omega, ?_⟩
          rw [HTK.out, puts_snoc]
          exact HI.out.step hw' hs'
        case measure => simp [intOf]; omega
      · have hke : k = xs.length := by omega
        subst hke
        rw [List.take_length] at hinv
        cases hst : puts aA aL (.ok 1048576 []) xs with
        | bad s' a' =>
          rw [hst] at hinv
          go_wp2_with fail
          refine (bytes_bad bw s' a' _ hinv.wr).mono ?_
          rintro e w5 ⟨v5, rfl, ⟨g5, rfl, hg5⟩, hbel5⟩
          go_wp2
          go_ret
          exact ⟨rfl, hinv.bel.trans (hbel5.mono hinv.bel.size)⟩
        | ok m' l' =>
          rw [hst] at hinv
          have hln := (puts_len aA aL xs (.ok 1048576 []) hok).1
          rw [hst] at hln
          have hl1 : l'.length ≤ 60600 := by simp [WS.len] at hln; omega
          obtain ⟨hm', r, hr, hlr⟩ := puts_ok aA aL xs 1048576 m' [] l' hst
          simp at hlr
          subst hlr
          go_wp2_with fail
          refine (bytes_ok bw _ _ _ hinv.wr).mono ?_
          rintro e w' ⟨rfl, rfl⟩
          have hbl := hinv.bel
          clear hinv I2 hln hm' hst hk hlt
          by_cases h0 : l' = []
          · subst h0
            go_wp2
            go_ret
            exact ⟨rfl, hbl⟩
          · have hpos := List.length_pos_iff.2 h0
            have hz : ((l'.length : Int) == 0) = false := beq_eq_false_iff_ne.2 (by omega)
            have hwl : IntKind.u64.wrap (l'.length : Int) = l'.length := by rw [IntKind.wrap_u64]; omega
            have hpi : (0 : Int) < l'.length := by omega
            obtain ⟨kk, hkk, hkl⟩ := cut_at at_ l'.length hpos hl1
            have hki : (kk : Int) ≤ l'.length := by omega
            go_wp2_with fail
            refine (newReader_any _ _).mono ?_
            rintro e w3 ⟨rfl, hr3, hb3⟩
            have I3 : RInv w w3 wr.heap.size ⟨l'.take kk, none⟩ := by
              refine ⟨?_, hbl.trans (hb3.mono hbl.size), hbl.size⟩
              rw [extract_list] at hr3
              simpa using hr3
            have HKK := hid hkk
            clear hr3 hb3 hbl hkk hwl hz
            generalize wr.heap.size = br at *
            have hatk : (((l'.take kk).length : Nat) : Int) = kk := by rw [List.length_take]; omega
            go_wp2_with fail
            go_loopw [11, 12, 13] (fun left wrong i wx => ∃ (k : Nat) (rest : List UInt8) (b : Bool) (st : RS), i = .int .i64 k ∧ k ≤ xs.length ∧ left = .int .i64 rest.length ∧ wrong = .bool b ∧ rest.length ≤ 60600 ∧ RInv w wx br st ∧ Ph aF xs k rest b st) (fun _ _ i _ => xs.length - (intOf i).toNat)
            case atStart => exact ⟨0, l'.take kk, false, _, rfl, Nat.zero_le _, by rw [HKK.out, hatk], rfl, by rw [List.length_take]; omega, I3, .inl ⟨rfl, rfl, l', hr, kk, rfl, hkl⟩⟩
            case round =>
              clear I3 hr HKK hatk
              obtain ⟨k, rest, b, st, rfl, hk, rfl, rfl, hrl, hinv, hph⟩ := hrel
              by_cases hlt : k < xs.length
              · obtain ⟨x, hx⟩ : ∃ x, xs[k]? = some x := ⟨_, List.getElem?_eq_getElem hlt⟩
                obtain ⟨ib, io, rfl, hc4⟩ := hlay.resolve_left (by rintro rfl; simp at hlt)
                obtain ⟨c0, c1, c2, c3⟩ := hc4 k x hx
                have hmem := List.mem_of_getElem? hx
                have hxo := hok x hmem
                have hbo := hI.bools x hmem
                have hkk := hxo.hk
                have hib : ib < w.heap.size := World.block_lt_of_cell? w _ c0
                obtain ⟨va, vc, hv, _⟩ := id hbo
                rw [hv] at c3 hbo
                obtain ⟨y, rest', st', hget, hle, hyl, hzero, hnext⟩ := ph_step hx hxo hph
                have HG := hid (fun W (hR : Rd W br st) (hP : RPre W st aF) (hB : Bools W (.slice va x.1.fl.length vc) x.1.asked.fl) => get_any br st x.1.asked (.slice va x.1.fl.length vc) (asked_kind hxo) (asked_I64 hxo) aF W hR hP hB)
                rw [hget] at HG
                have hstl : st.rest.length ≤ 10000000 := by rw [ph_rest hph]; omega
                have hafl : x.1.asked.fl = x.1.fl := asked_fl x.1
                have hst' := ph_rest' hnext
                have d0 := (hinv.bel.cell (p := ⟨ib, io + k * 4, none⟩) hib).trans c0
                have d1 := (hinv.bel.cell (p := ⟨ib, io + k * 4 + 1, none⟩) hib).trans c1
                have d2 := (hinv.bel.cell (p := ⟨ib, io + k * 4 + 2, none⟩) hib).trans c2
                have d3 := (hinv.bel.cell (p := ⟨ib, io + k * 4 + 3, none⟩) hib).trans c3
                have HI := hid hinv
                have HN := hid hnext
                have htl : x.1.told.fl.length ≤ 100000 := told_len hxo
                clear hinv hph hget hx hv hnext
                have hgt : ¬ ((rest.length : Int) < rest'.length) := by omega
                go_wp2_with fail
                refine (asked_any x.1 _ hkk _ (hbo.later HI.out.bel)).mono ?_
                rintro e w5 ⟨rfl, hb5⟩
                have I5 := HI.out.new hb5
                go_wp2_with fail
                refine (HG.out _ I5.rd ((hE.below h3 I5.bel).rpre hstl) (by rw [hafl]; exact hbo.later I5.bel)).mono ?_
                rintro e w6 ⟨⟨vy, rfl, hby⟩, hr6, hk6⟩
                have I6 := I5.step hr6 hk6
                obtain ⟨ya, yc, rfl, _⟩ := id hby
                obtain ⟨W7, hW7⟩ : ∃ W7, W7 = w6.alloc (.cells #[.int .i64 y.kind, .int .i64 y.N, .string y.text, .slice ya y.fl.length yc] 30) := ⟨_, rfl⟩
                have hb7 : Below w6.heap.size w6 W7 := by rw [hW7]; exact (Below.refl _ _).alloc (Nat.le_refl _) _
                have I7 := I6.new hb7
                have hby7 := hby.later hb7
                have hblk : W7.heap[w6.heap.size]? = some (.cells #[.int .i64 y.kind, .int .i64 y.N, .string y.text, .slice ya y.fl.length yc] 30 (0, 0)) := by rw [hW7]; exact blk_new _ _
                have y0 : W7.cell? ⟨w6.heap.size, 0, none⟩ = some (.int .i64 y.kind) := blk_cell hblk 0
                have y1 : W7.cell? ⟨w6.heap.size, 1, none⟩ = some (.int .i64 y.N) := blk_cell hblk 1
                have y2 : W7.cell? ⟨w6.heap.size, 2, none⟩ = some (.string y.text) := blk_cell hblk 2
                have y3 : W7.cell? ⟨w6.heap.size, 3, none⟩ = some (.slice ya y.fl.length yc) := blk_cell hblk 3
                have e0 := (I7.bel.cell (p := ⟨ib, io + k * 4, none⟩) hib).trans c0
                have e1 := (I7.bel.cell (p := ⟨ib, io + k * 4 + 1, none⟩) hib).trans c1
                have e2 := (I7.bel.cell (p := ⟨ib, io + k * 4 + 2, none⟩) hib).trans c2
                have e3 := (I7.bel.cell (p := ⟨ib, io + k * 4 + 3, none⟩) hib).trans c3
                have hbo7 : Bools W7 (.slice va x.1.fl.length vc) x.1.fl := hbo.later I7.bel
                have HI7 := hid I7
                clear I5 I6 hb5 hr6 hk6 hby hb7 I7 HI HG d0 d1 d2 d3 hblk hstl
                simp only [Itm.val] at *
                go_wp2_with fail
                rw [← hW7]
                clear hW7
                generalize w6.heap.size = by_ at *
                refine (left_any br st' _ HI7.out.rd).mono ?_
                rintro e w8 ⟨rfl, rfl⟩
                rw [hst']
                cases b with
                | false =>
                  go_wp2_with fail
                  go_quiet (fail)
                  go_wp2_with fail
                  obtain ⟨W8, hW8⟩ : ∃ W8, W8 = W7.drewN nq := ⟨_, rfl⟩
                  rw [← hW8]
                  have hc8 : Ch W7 W8 := by rw [hW8]; exact Ch.drewN ⟨Below.refl _ _⟩ nq
                  clear hW8
                  have hcd := hc8.drew1
                  obtain ⟨d0, d1, d2, d3, z0, z1, z2, z3⟩ := ch8 hcd e0 e1 e2 e3 y0 y1 y2 y3
                  go_region_held3 (fun W => W.cell? ⟨ib, io + k * 4, none⟩ = some (.int .i64 x.1.kind) ∧ W.cell? ⟨ib, io + k * 4 + 1, none⟩ = some (.int .i64 x.1.N) ∧ W.cell? ⟨ib, io + k * 4 + 2, none⟩ = some (.string x.1.text) ∧ W.cell? ⟨ib, io + k * 4 + 3, none⟩ = some (.slice va x.1.fl.length vc) ∧ W.cell? ⟨by_, 0, none⟩ = some (.int .i64 y.kind) ∧ W.cell? ⟨by_, 1, none⟩ = some (.int .i64 y.N) ∧ W.cell? ⟨by_, 2, none⟩ = some (.string y.text) ∧ W.cell? ⟨by_, 3, none⟩ = some (.slice ya y.fl.length yc)) (first | go_keep | (exact ch8 (by assumption) e0 e1 e2 e3 y0 y1 y2 y3)) (first | (go_at_call 24; refine (told_from x.1 _ hkk W7 _ hbo7).mono ?_; rintro e1 w' ⟨⟨vt, rfl, hvt⟩, hbel⟩; have hcn := Ch.new (by assumption) hbel) | (go_at_call 18; refine (same_any y x.1.told (.slice ya y.fl.length yc) vt _ hyl ?_ ?_).mono ?_; exact hby7.later (Ch.bel (by assumption)); exact hvt _ (Ch.bel (by assumption)); rintro e1 w' ⟨rfl, hbel⟩; have hcn := Ch.new (by assumption) hbel))
                  have HC := hid hcn
                  clear hcn hbel hcd hc8 d0 d1 d2 d3 z0 z1 z2 z3
                  go_wp2_with fail
                  refine (left_any br st' _ (HI7.out.rd.new HC.out.bel)).mono ?_
                  rw [hst']
                  rintro e1 w9 ⟨rfl, rfl⟩
                  go_wp2_with fail
                  exact ⟨⟨k + 1, rest', _, st', by go_num, by omega, rfl, rfl, by omega, HI7.out.new HC.out.bel, HN.out _ rfl⟩, by simp [intOf]; omega⟩
                | true =>
                  obtain ⟨rfl, rfl⟩ := hzero rfl
                  have hcd := Ch.drew (W0 := W7)
                  go_wp2_with fail
                  obtain ⟨d0, d1, d2, d3, z0, z1, z2, z3⟩ := ch8 hcd e0 e1 e2 e3 y0 y1 y2 y3
                  go_region_held3 (fun W => W.cell? ⟨ib, io + k * 4, none⟩ = some (.int .i64 x.1.kind) ∧ W.cell? ⟨ib, io + k * 4 + 1, none⟩ = some (.int .i64 x.1.N) ∧ W.cell? ⟨ib, io + k * 4 + 2, none⟩ = some (.string x.1.text) ∧ W.cell? ⟨ib, io + k * 4 + 3, none⟩ = some (.slice va x.1.fl.length vc) ∧ W.cell? ⟨by_, 0, none⟩ = some (.int .i64 (zeroI x.1.kind).kind) ∧ W.cell? ⟨by_, 1, none⟩ = some (.int .i64 (zeroI x.1.kind).N) ∧ W.cell? ⟨by_, 2, none⟩ = some (.string (zeroI x.1.kind).text) ∧ W.cell? ⟨by_, 3, none⟩ = some (.slice ya (zeroI x.1.kind).fl.length yc)) (first | go_keep | (exact ch8 (by assumption) e0 e1 e2 e3 y0 y1 y2 y3)) (first | (go_at_call 20; refine (left_any br st' _ (Rd.new HI7.out.rd (Ch.bel (by assumption)))).mono ?_; rw [hst']; rintro e1 w' ⟨rfl, rfl⟩) | (go_at_call 18; refine (same_eq (zeroI x.1.kind) (.slice ya (zeroI x.1.kind).fl.length yc) (.slice none 0 0) _ (by simp [zeroI]) ?_ ?_).mono ?_; exact hby7.later (Ch.bel (by assumption)); exact Bools.nil _; rintro e1 w' ⟨rfl, hbel⟩; have hcn := Ch.new (by assumption) hbel))
                  have HC := hid hcn
                  clear hcn hbel hcd d0 d1 d2 d3 z0 z1 z2 z3
                  go_wp2_with fail
                  go_quiet (fail)
                  go_wp2_with fail
                  refine (left_any br st' _ (HI7.out.rd.new (HC.out.drewN _).bel)).mono ?_
                  rw [hst']
                  rintro e1 w9 ⟨rfl, rfl⟩
                  go_wp2_with fail
                  exact ⟨⟨k + 1, rest', true, st', by go_num, by omega, rfl, rfl, hrl, HI7.out.new (HC.out.drewN _).bel, HN.out true rfl⟩, by simp [intOf]; omega⟩
              · have hke : k = xs.length := by omega
                subst hke
                have hbad : ∃ s, st = ⟨rest, some (s, aF)⟩ := by
                  rcases hph with ⟨_, _, R, hR, m, _, hm⟩ | h
                  · rw [List.drop_length] at hR
                    cases hR
                    simp at hm
                  · exact h
                obtain ⟨s, rfl⟩ := hbad
                have E8 := hE.below h3 hinv.bel
                have k0 := E8.c0
                have hsz8 := hinv.bel.size
                have R8 := hinv.rd
                have HI := hid hinv
                clear hinv hph hE E8
                go_wp2_with fail
                go_region_held3 (fun w' => w'.cell? ⟨0, 0, none⟩ = some (.iface 113 (.pointer (some aF)))) (first | go_keep | assumption) (first | (go_at_call 21; refine (end_bad br rest s aF _ ?_).mono ?_; exact R8; rintro e w' ⟨v, rfl, ⟨g, rfl, hg⟩, hbel⟩; have k0' := (hbel.cell (p := ⟨0, 0, none⟩) (by simp; omega)).trans k0) | (go_at_call 22; refine (is_blame _ s aF _ ?_).mono ?_; assumption; rintro e w' ⟨rfl, rfl⟩))
                all_goals go_wp2
                all_goals go_ret
                all_goals exact ⟨rfl, HI.out.bel.trans ((show Below wr.heap.size wr _ from ⟨hbel.os, hbel.tape, hbel.output, hbel.size, hbel.block⟩).mono hsz8)⟩
end Go.Proofs.YthngdaeiopgigaaDoor
