/- The law StrandForms, walked. -/
import Derived.Test.YthngdaeiopgigaaDoorLb
import Derived.Test.YthngdaeiopgigaaDoorMd
namespace Go.Proofs.YthngdaeiopgigaaDoor
open Go.ChangeShapes Go.WideShapes Go.ChangeAt Go.RowKit
/-- A writer and a reader of the call's own. -/
structure Two (w W : World) (bw br : Nat) (st : WS) (rs : RS) : Prop where
  bel : Below w.heap.size w W
  wr : Wr W bw st
  rd : Rd W br rs
  nd : ¬ foot W bw br
  ft : ∀ k, foot W bw k → w.heap.size ≤ k
  lr : w.heap.size ≤ br
theorem Two.new {w W W' : World} {bw br : Nat} {st : WS} {rs : RS} (h : Two w W bw br st rs) (hb : Below W.heap.size W W') : Two w W' bw br st rs := by
  have hs := foot_same (hb.block bw h.wr.foots.lt)
  exact ⟨h.bel.trans (hb.mono h.bel.size), h.wr.new hb, h.rd.new hb, fun hf => h.nd ((hs br).1 hf), fun k hk => h.ft k ((hs k).1 hk), h.lr⟩
theorem Two.read {w W W' : World} {bw br : Nat} {st : WS} {rs rs' : RS} (h : Two w W bw br st rs) (hr : Rd W' br rs') (hk : Kp (fun k => k = br) W W') : Two w W' bw br st rs' := by
  have hb : ∀ k, foot W bw k → W'.heap[k]? = W.heap[k]? := fun k hf => hk.block k (h.wr.foots k hf) (fun e => h.nd (e ▸ hf))
  have hs := foot_same (hb bw (.inl rfl))
  exact ⟨h.bel.trans (hk.below h.bel.size (fun k e => by rw [e]; exact h.lr)), h.wr.kept hb hk.size, hr, fun hf => h.nd ((hs br).1 hf), fun k hf => h.ft k ((hs k).1 hf), h.lr⟩
theorem Two.write {w W W' : World} {bw br : Nat} {st st' : WS} {rs : RS} (h : Two w W bw br st rs) (hw : Wr W' bw st') (hs : Stp bw W W') : Two w W' bw br st' rs := by
  obtain ⟨h1, h2⟩ := hs.below h.bel.size h.ft
  refine ⟨h.bel.trans h1, hw, h.rd.kept (hs.kp.block br h.rd.foots.lt h.nd), fun hf => ?_, h2, h.lr⟩
  rcases hs.ft br hf with h3 | h3
  · exact h.nd h3
  · have := h.rd.foots.lt; omega
theorem fit_of {y : Itm} {x : Itm} {l : List UInt8} (hx : 1 ≤ x.kind ∧ x.kind ≤ 6) (hk : y.kind = x.kind) (hN : I64 y.N) (ht : y.text.size ≤ l.length) (hf : y.fl.length ≤ 8 * l.length) (hl : l.length ≤ 4096) : y.Fit := ⟨by rw [hk]; exact hx, hN, by omega, by omega⟩
theorem prefix_eq {s : ByteArray} {l r : List UInt8} (h : l ++ r = s.data.toList) : ((s.extract 0 l.length).toList == l) = true := by
  rw [beq_iff_eq, toList_data, extract_list, ← h]
  simp
set_option maxHeartbeats 3200000 in
set_option maxRecDepth 100000 in
theorem forms_any (w : World) (s : ByteArray) (v : Value) (xs : List (Itm × Value)) (aF aA aL aN : Addr) (hE : Env w aF aA aL aN) (hI : Its w v xs) (hl : xs.length ≤ 10000000000000) (hs : s.size ≤ 140737488355328) :
    Calls Tryd.prog 6 #[.string s, v] w fun e w' => e = .returned (.bool true) ∧ Below w.heap.size w w' := by
  have h3 := hE.lt
  obtain ⟨a, c, rfl, hlay⟩ := hI.lay
  have hsl : s.data.toList.length = s.size := by simp
  have HSL := hid hsl
  clear hsl
  go_enter Tryd.func6, Tryd.ntmps6
  go_wp2_with fail
  refine (awake_any w aF aA aL aN hE).mono ?_
  rintro e w1 ⟨rfl, hb1⟩
  go_wp2_with fail
  refine (heavy_any xs _ w1 hl (hI.later hb1)).mono ?_
  rintro e w1' ⟨rfl, rfl⟩
  cases hh : hvy xs with
  | true =>
    go_wp2
    go_ret
    exact ⟨rfl, hb1⟩
  | false =>
    obtain ⟨h60, hok⟩ := ok_of hh hI.nums
    clear hh
    by_cases hbig : 4096 < s.size
    · go_wp2
      go_ret
      exact ⟨rfl, hb1⟩
    · go_wp2_with fail
      refine (newReader_any _ _).mono ?_
      rintro e w2 ⟨rfl, hr2, hb2⟩
      go_wp2_with fail
      refine (newWriter_any 1048576 _).mono ?_
      rintro e w3 ⟨rfl, hw3, hb3, hf3⟩
      have T3 : Two w w3 w2.heap.size w1.heap.size (.ok 1048576 []) ⟨s.data.toList, none⟩ := by
        have e1 := hb1.size
        have e2 := hb2.size
        refine ⟨(hb1.trans (hb2.mono e1)).trans (hb3.mono (by omega)), hw3, hr2.new hb3, fun hf => ?_, fun k hk => by have := hf3 k hk; omega, e1⟩
        have e3 := hf3 _ hf
        have e4 := hr2.foots.lt
        omega
      clear hr2 hb2 hw3 hb3 hf3 hb1
      generalize w2.heap.size = bw at *
      generalize w1.heap.size = br at *
      go_wp2_with fail
      go_loopw [7] (fun i wx => ∃ (k : Nat) (l' rest : List UInt8), i = .int .i64 k ∧ k ≤ xs.length ∧ l' ++ rest = s.data.toList ∧ Two w wx bw br (.ok 1048576 l') ⟨rest, none⟩) (fun i _ => xs.length - (intOf i).toNat)
      case atStart => exact ⟨0, [], s.data.toList, rfl, Nat.zero_le _, rfl, T3⟩
      case round =>
        clear T3
        obtain ⟨k, l', rest, rfl, hk, hlr, hT⟩ := hrel
        have hlen : l'.length + rest.length = s.size := by rw [← HSL.out, ← hlr, List.length_append]
        by_cases hlt : k < xs.length
        · obtain ⟨x, hx⟩ : ∃ x, xs[k]? = some x := ⟨_, List.getElem?_eq_getElem hlt⟩
          obtain ⟨ib, io, rfl, hc4⟩ := hlay.resolve_left (by rintro rfl; simp at hlt)
          obtain ⟨c0, c1, c2, c3⟩ := hc4 k x hx
          have hmem := List.mem_of_getElem? hx
          have hkk := (hok x hmem).hk
          have hbo := hI.bools x hmem
          have hN := hI.nums x hmem
          have hib : ib < w.heap.size := World.block_lt_of_cell? w _ c0
          obtain ⟨va, vc, hv, _⟩ := id hbo
          rw [hv] at c3 hbo
          have hgc := get_cases x.1 hkk rest aF
          have HG := hid (get_any br ⟨rest, none⟩ x.1 (.slice va x.1.fl.length vc) hkk hN aF wr hT.rd ((hE.below h3 hT.bel).rpre (by simp; omega)) (hbo.later hT.bel))
          have d0 := (hT.bel.cell (p := ⟨ib, io + k * 4, none⟩) hib).trans c0
          have d1 := (hT.bel.cell (p := ⟨ib, io + k * 4 + 1, none⟩) hib).trans c1
          have d2 := (hT.bel.cell (p := ⟨ib, io + k * 4 + 2, none⟩) hib).trans c2
          have d3 := (hT.bel.cell (p := ⟨ib, io + k * 4 + 3, none⟩) hib).trans c3
          generalize RS.get aF x.1 ⟨rest, none⟩ = q at hgc HG
          have HLR := hid hlr
          clear hlr hx hv
          go_wp2_with fail
          refine (left_any br _ _ hT.rd).mono ?_
          rintro e1 w5 ⟨rfl, rfl⟩
          go_wp2_with fail
          cases hgc with
          | yes y e t hl he hky hNy hty hfy h0 h6 =>
            refine HG.out.mono ?_
            rintro e1 w6 ⟨⟨vy, rfl, hby⟩, hr6, hk6⟩
            have T6 := hT.read hr6 hk6
            have hfit := fit_of hkk hky hNy hty hfy (show rest.length ≤ 4096 by omega)
            obtain ⟨ya, yc, rfl, _⟩ := id hby
            have hb7 : Below w6.heap.size w6 (w6.alloc (.cells #[.int .i64 y.kind, .int .i64 y.N, .string y.text, .slice ya y.fl.length yc] 30)) := (Below.refl _ _).alloc (Nat.le_refl _) _
            have T7 := T6.new hb7
            have hby7 := hby.later hb7
            have hrl : rest.length = e.length + t.length := by rw [hl, List.length_append]
            have HP := hid (put_any bw (.ok 1048576 l') y (.slice ya y.fl.length yc) hfit aA aL _ T7.wr ((hE.below h3 T7.bel).wpre (by simp [WS.most]) (by simp only [WS.len]; omega)) hby7)
            rw [he, WS.putB_some, show (WS.ok 1048576 l').write aL y.nm e = .ok 1048576 (l' ++ e) from by simp [WS.write]; omega] at HP
            have e0 := (T7.bel.cell (p := ⟨ib, io + k * 4, none⟩) hib).trans c0
            have e1 := (T7.bel.cell (p := ⟨ib, io + k * 4 + 1, none⟩) hib).trans c1
            have hlr2 : (l' ++ e) ++ t = s.data.toList := by rw [List.append_assoc, ← hl]; exact HLR.out
            have HLR2 := hid hlr2
            have HT := hid T7
            have hblt := T6.rd
            clear hT T6 T7 hby hby7 hfit hlr2 HLR HG d0 d1 d2 d3 hb7 hr6 hk6 hky hNy hty hfy
            simp only [Itm.val] at *
            by_cases hee : e = []
            · obtain ⟨hx6, hx0⟩ := h0 hee
              have hq : ((t.length : Int) == (rest.length : Int)) = true := beq_iff_eq.2 (by rw [hrl, hee]; simp)
              rw [hx6] at e0
              rw [hx0] at e1
              clear h0 h6 he
              go_wp2_with (first | (go_at_call 20; refine (left_any br _ _ HT.out.rd).mono ?_; rintro e9 w9 ⟨rfl, rfl⟩) | (go_at_call 12; refine (HP.out).mono ?_; rintro e9 w9 ⟨rfl, hw9, hs9⟩))
              exact ⟨⟨k + 1, l' ++ e, t, by go_num, by omega, HLR2.out, HT.out.write hw9 hs9⟩, by simp [intOf]; omega⟩
            · have hq : ((t.length : Int) == (rest.length : Int)) = false := beq_eq_false_iff_ne.2 (by rw [hrl]; have := List.length_pos_iff.2 hee; omega)
              clear h0 h6 he hl hrl hlen hee
              go_wp2_with (first | (go_at_call 20; refine (left_any br _ _ HT.out.rd).mono ?_; rintro e9 w9 ⟨rfl, rfl⟩) | (go_at_call 12; refine (HP.out).mono ?_; rintro e9 w9 ⟨rfl, hw9, hs9⟩))
              exact ⟨⟨k + 1, l' ++ e, t, by go_num, by omega, HLR2.out, HT.out.write hw9 hs9⟩, by simp [intOf]; omega⟩
          | no y s' h0 =>
            refine HG.out.mono ?_
            rintro e1 w6 ⟨⟨vy, rfl, hby⟩, hr6, hk6⟩
            have T6 := hT.read hr6 hk6
            obtain ⟨ya, yc, rfl, _⟩ := id hby
            have hb7 : Below w6.heap.size w6 (w6.alloc (.cells #[.int .i64 y.kind, .int .i64 y.N, .string y.text, .slice ya y.fl.length yc] 30)) := (Below.refl _ _).alloc (Nat.le_refl _) _
            have T7 := T6.new hb7
            have e0 := (T7.bel.cell (p := ⟨ib, io + k * 4, none⟩) hib).trans c0
            have e1 := (T7.bel.cell (p := ⟨ib, io + k * 4 + 1, none⟩) hib).trans c1
            have HT := hid T7
            clear hT T6 T7 hby HG d0 d1 d2 d3 hb7 hr6 hk6
            simp only [Itm.val] at *
            have hq : ((rest.length : Int) == (rest.length : Int)) = true := by simp
            have hfin : ((l'.length : Int) == (s.size : Int) - rest.length) = true := beq_iff_eq.2 (by omega)
            have HFB := hid (prefix_eq HLR.out)
            clear HLR
            by_cases hx6 : x.1.kind = 6
            · have hq2 : (x.1.kind == 6) = true := beq_iff_eq.2 hx6
              have hq3 : (x.1.N == 0) = false := beq_eq_false_iff_ne.2 (fun h => h0 ⟨hx6, h⟩)
              clear hx6 h0
              go_wp2_with (first | (go_at_call 20; refine (left_any br _ _ HT.out.rd).mono ?_; rintro e9 w9 ⟨rfl, rfl⟩) | (go_at_call 13; refine (bytes_ok bw _ _ _ HT.out.wr).mono ?_; rintro e9 w9 ⟨rfl, rfl⟩))
              go_ret
              refine ⟨?_, HT.out.bel⟩
              show Ending.returned (.bool ((s.extract 0 l'.length).toList == l')) = _
              rw [HFB.out]
            · have hq2 : (x.1.kind == 6) = false := beq_eq_false_iff_ne.2 hx6
              clear hx6 h0
              go_wp2_with (first | (go_at_call 20; refine (left_any br _ _ HT.out.rd).mono ?_; rintro e9 w9 ⟨rfl, rfl⟩) | (go_at_call 13; refine (bytes_ok bw _ _ _ HT.out.wr).mono ?_; rintro e9 w9 ⟨rfl, rfl⟩))
              go_ret
              refine ⟨?_, HT.out.bel⟩
              show Ending.returned (.bool ((s.extract 0 l'.length).toList == l')) = _
              rw [HFB.out]
        · have hfin : ((l'.length : Int) == (s.size : Int) - rest.length) = true := beq_iff_eq.2 (by omega)
          have HFB := hid (prefix_eq hlr)
          have HT := hid hT
          clear hlr hT
          go_wp2_with (first | (go_at_call 20; refine (left_any br _ _ HT.out.rd).mono ?_; rintro e9 w9 ⟨rfl, rfl⟩) | (go_at_call 13; refine (bytes_ok bw _ _ _ HT.out.wr).mono ?_; rintro e9 w9 ⟨rfl, rfl⟩))
          go_ret
          refine ⟨?_, HT.out.bel⟩
          show Ending.returned (.bool ((s.extract 0 l'.length).toList == l')) = _
          rw [HFB.out]
end Go.Proofs.YthngdaeiopgigaaDoor
