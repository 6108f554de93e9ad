/- The law StrandBack, walked. -/
import Derived.Test.YthngdaeiopgigaaDoorLa
namespace Go.Proofs.YthngdaeiopgigaaDoor
open Go.ChangeShapes Go.WideShapes Go.ChangeAt Go.RowKit
attribute [local go_sem ↓] Go.wp_at_zero Go.wp_at_succ
theorem ok_of {xs : List (Itm × Value)} (h : hvy xs = false) (hn : ∀ x ∈ xs, I64 x.1.N) : xs.length ≤ 60 ∧ ∀ x ∈ xs, x.1.Ok := by
  simp only [hvy, Bool.or_eq_false_iff, decide_eq_false_iff_not] at h
  obtain ⟨h1, h2⟩ := h
  refine ⟨by omega, fun x hx => ?_⟩
  have h3 := List.any_eq_false.1 h2 x hx
  simp [badI] at h3
  exact ⟨by omega, hn x hx, by omega, by omega⟩
theorem append_list (l m : List UInt8) : ((⟨l.toArray⟩ : ByteArray) ++ ⟨m.toArray⟩).data.toList = l ++ m := by
  simp [ByteArray.data_append]
theorem drop_cons {xs : List (Itm × Value)} {k : Nat} {x : Itm × Value} (h : xs[k]? = some x) : xs.drop k = x :: xs.drop (k + 1) := by
  obtain ⟨h1, h2⟩ := List.getElem?_eq_some_iff.1 h
  rw [List.drop_eq_getElem_cons h1, h2]
theorem encs_cons {x : Itm × Value} {t : List (Itm × Value)} {r : List UInt8} (h : encs (x :: t) = some r) : ∃ e r', x.1.enc = some e ∧ encs t = some r' ∧ r = e ++ r' := by
  unfold encs at h
  cases he : x.1.enc with
  | none => rw [he] at h; cases h
  | some e =>
    cases ht : encs t with
    | none => rw [he, ht] at h; cases h
    | some r' => rw [he, ht] at h; cases h; exact ⟨e, r', rfl, rfl, rfl⟩
theorem its4 {w W : World} {br bq ib io k : Nat} {st sq : RS} {v0 v1 v2 v3 : Value} (h : Car w W br bq st sq) (hib : ib < w.heap.size) (c0 : w.cell? ⟨ib, io + k * 4, none⟩ = some v0) (c1 : w.cell? ⟨ib, io + k * 4 + 1, none⟩ = some v1) (c2 : w.cell? ⟨ib, io + k * 4 + 2, none⟩ = some v2) (c3 : w.cell? ⟨ib, io + k * 4 + 3, none⟩ = some v3) :
    W.cell? ⟨ib, io + k * 4, none⟩ = some v0 ∧ W.cell? ⟨ib, io + k * 4 + 1, none⟩ = some v1 ∧ W.cell? ⟨ib, io + k * 4 + 2, none⟩ = some v2 ∧ W.cell? ⟨ib, io + k * 4 + 3, none⟩ = some v3 :=
  ⟨(h.bel.cell (p := ⟨ib, _, none⟩) hib).trans c0, (h.bel.cell (p := ⟨ib, _, none⟩) hib).trans c1, (h.bel.cell (p := ⟨ib, _, none⟩) hib).trans c2, (h.bel.cell (p := ⟨ib, _, none⟩) hib).trans c3⟩
theorem asked_fl (x : Itm) : x.asked.fl = x.fl := by unfold Itm.asked; split; rfl; split <;> rfl
theorem asked_kind {x : Itm} (h : x.Ok) : 1 ≤ x.asked.kind ∧ x.asked.kind ≤ 6 := by
  have := h.hk
  unfold Itm.asked; split
  · simp
  · split
    · simp
    · exact this
theorem asked_I64 {x : Itm} (h : x.Ok) : I64 x.asked.N := by
  have h1 := h.ht
  have h2 := h.hf
  unfold Itm.asked; split
  · unfold I64; simp only; omega
  · split
    · unfold I64; simp only; omega
    · exact h.hN
theorem told_len {x : Itm} (h : x.Ok) : x.told.fl.length ≤ 100000 := by
  have h2 := h.hf
  unfold Itm.told
  split
  · simp
  · split
    · simp
    · split
      · simp only; omega
      · simp
theorem same_eq (x : Itm) (vx vy : Value) (w : World) (hl : x.fl.length ≤ 100000) (hX : Bools w vx x.fl) (hY : Bools w vy x.fl) :
    Calls Tryd.prog 18 #[x.val vx, x.val vy] w fun e w' => e = .returned (.bool true) ∧ Below w.heap.size w w' := by
  have h := same_any x x vx vy w hl hX hY
  rw [show decide (x = x) = true from by simp] at h
  exact h
theorem puts_pre (aA aL : Addr) {xs : List (Itm × Value)} (hok : ∀ x ∈ xs, x.1.Ok) (h60 : xs.length ≤ 60) (k m : Nat) (hm : (m : Int) ≤ 9223372036854775807) : ((puts aA aL (.ok m []) (xs.take k)).most : Int) ≤ 9223372036854775807 ∧ (puts aA aL (.ok m []) (xs.take k)).len ≤ 1000000 := by
  obtain ⟨h1, h2⟩ := puts_len aA aL (xs.take k) (.ok m []) (fun y hy => hok y (List.mem_of_mem_take hy))
  have e1 : (WS.ok m []).len = 0 := rfl
  have e2 : (WS.ok m []).most = m := rfl
  have e3 : (xs.take k).length ≤ 60 := Nat.le_trans (List.length_take_le' _ _) h60
  rw [e1] at h1
  rw [e2] at h2
  constructor <;> omega
set_option maxHeartbeats 3200000 in
set_option maxRecDepth 100000 in
theorem back_any (w : World) (v : Value) (xs : List (Itm × Value)) (aF aA aL aN : Addr) (hE : Env w aF aA aL aN) (hI : Its w v xs) (hl : xs.length ≤ 10000000000000) :
    Calls Tryd.prog 5 #[v] w fun e w' => e = .returned (.bool true) ∧ Below w.heap.size w w' := by
  have h3 := hE.lt
  obtain ⟨a, c, rfl, hlay⟩ := hI.lay
  go_enter Tryd.func5, Tryd.ntmps5
  go_wp2_with fail
  refine (awake_any w aF aA aL aN hE).mono ?_
  rintro e w1 ⟨rfl, hb1⟩
  go_wp2_with fail
  refine (heavy_any xs _ w1 hl (hI.later hb1)).mono ?_
  rintro e w1' ⟨rfl, rfl⟩
  cases hh : hvy xs with
  | true =>
    go_wp2
    go_ret
    exact ⟨rfl, hb1⟩
  | false =>
    obtain ⟨h60, hok⟩ := ok_of hh hI.nums
    clear hh
    go_wp2_with fail
    refine (newWriter_any 1048576 _).mono ?_
    rintro e w2 ⟨rfl, hw2, hb2, hf2⟩
    have I2 : WInv w w2 w1.heap.size (.ok 1048576 []) := ⟨hw2, hb1.trans (hb2.mono hb1.size), fun k hk => Nat.le_trans hb1.size (hf2 k hk)⟩
    clear hw2 hb2 hf2
    have hsz1 := hb1.size
    clear hb1
    generalize w1.heap.size = bw at *
    go_wp2_with fail
    go_loopw [4] (fun i wr => ∃ k : Nat, i = .int .i64 k ∧ k ≤ xs.length ∧ WInv w wr bw (puts aA aL (.ok 1048576 []) (xs.take k))) (fun i _ => xs.length - (intOf i).toNat)
    case atStart => exact ⟨0, rfl, Nat.zero_le _, I2⟩
    case round =>
      obtain ⟨k, rfl, hk, hinv⟩ := hrel
      by_cases hlt : k < xs.length
      · obtain ⟨x, hx⟩ : ∃ x, xs[k]? = some x := ⟨_, List.getElem?_eq_getElem hlt⟩
        obtain ⟨ib, io, rfl, hc4⟩ := hlay.resolve_left (by rintro rfl; simp at hlt)
        obtain ⟨c0, c1, c2, c3⟩ := hc4 k x hx
        have hmem := List.mem_of_getElem? hx
        have hxo := hok x hmem
        have hbo := hI.bools x hmem
        have hbel := hinv.bel
        have hib : ib < w.heap.size := World.block_lt_of_cell? w _ c0
        have d0 := (hbel.cell (p := ⟨ib, _, none⟩) hib).trans c0
        have d1 := (hbel.cell (p := ⟨ib, _, none⟩) hib).trans c1
        have d2 := (hbel.cell (p := ⟨ib, _, none⟩) hib).trans c2
        have d3 := (hbel.cell (p := ⟨ib, _, none⟩) hib).trans c3
        have hbr := hbo.later hbel
        have hEr := hE.below h3 hbel
        have HTK : Hid (xs.take (k + 1) = xs.take k ++ [x]) := by show _ = _; rw [List.take_add_one, hx]; rfl
        obtain ⟨hml, hll⟩ := puts_pre aA aL hok h60 k 1048576 (by decide)
        have hP := hid (put_any bw _ x.1 x.2 hxo.fit aA aL wr hinv.wr (hEr.wpre hml hll) hbr)
        obtain ⟨va, vc, hv, _⟩ := hbr
        rw [hv] at d3 hP
        have HI := hid hinv
        clear hinv hbel hbo hxo hmem hx c0 c1 c2 c3 hEr hml hll hv
        go_wp2_with (go_at_call 12; refine (hP.out).mono ?_; rintro e w' ⟨rfl, hw', hs'⟩)
        go_roundw
        case rel =>
          refine ⟨k + 1, by go_num, by omega, ?_⟩
          rw [HTK.out, puts_snoc]
          exact HI.out.step hw' hs'
        case measure => simp [intOf]; omega
      · have hke : k = xs.length := by omega
        subst hke
        rw [List.take_length] at hinv
        cases hst : puts aA aL (.ok 1048576 []) xs with
        | bad s' a' =>
          rw [hst] at hinv
          go_wp2_with (go_at_call 13; refine (bytes_bad bw s' a' _ hinv.wr).mono ?_; rintro e w' ⟨v1, rfl, ⟨g, rfl, hg⟩, hbel⟩)
          go_ret
          exact ⟨rfl, hinv.bel.trans (hbel.mono hinv.bel.size)⟩
        | ok m' l' =>
          rw [hst] at hinv
          have hln := (puts_len aA aL xs (.ok 1048576 []) hok).1
          rw [hst] at hln
          have hl1 : l'.length ≤ 60600 := by simp [WS.len] at hln; omega
          obtain ⟨hm', r, hr, hlr⟩ := puts_ok aA aL xs 1048576 m' [] l' hst
          simp at hlr
          subst hlr
          go_wp2_with fail
          refine (bytes_ok bw _ _ _ hinv.wr).mono ?_
          rintro e w' ⟨rfl, rfl⟩
          go_wp2_with fail
          refine (newReader_any _ _).mono ?_
          rintro e w3 ⟨rfl, hr3, hb3⟩
          go_wp2_with fail
          refine (newReader_any _ _).mono ?_
          rintro e w4 ⟨rfl, hr4, hb4⟩
          have C4 : Car w w4 wr.heap.size w3.heap.size ⟨l', none⟩ ⟨l' ++ [120], none⟩ := by
            have hs3 := hinv.bel.size
            have hs4 := hb3.size
            refine ⟨(hinv.bel.trans (hb3.mono hs3)).trans (hb4.mono (by omega)), hr3.new hb4, ?_, ?_, by omega, by omega⟩
            · rw [append_list] at hr4; exact hr4
            · have := hr3.foots.lt; omega
          clear hr3 hb3 hr4 hb4 hinv I2 hln hm' hst hk hlt
          generalize wr.heap.size = br at *
          generalize w3.heap.size = bq at *
          go_wp2_with fail
          go_loopw [9] (fun i wy => ∃ (k : Nat) (rst : List UInt8), i = .int .i64 k ∧ k ≤ xs.length ∧ encs (xs.drop k) = some rst ∧ rst.length ≤ 60600 ∧ Car w wy br bq ⟨rst, none⟩ ⟨rst ++ [120], none⟩) (fun i _ => xs.length - (intOf i).toNat)
          case atStart => exact ⟨0, l', rfl, Nat.zero_le _, hr, hl1, C4⟩
          case round =>
            clear C4 hr
            obtain ⟨k, rst, rfl, hk, hen, hrl, hcar⟩ := hrel
            by_cases hlt : k < xs.length
            · obtain ⟨x, hx⟩ : ∃ x, xs[k]? = some x := ⟨_, List.getElem?_eq_getElem hlt⟩
              obtain ⟨ib, io, rfl, hc4⟩ := hlay.resolve_left (by rintro rfl; simp at hlt)
              obtain ⟨c0, c1, c2, c3⟩ := hc4 k x hx
              have hmem := List.mem_of_getElem? hx
              have hxo := hok x hmem
              have hbo := hI.bools x hmem
              have hib : ib < w.heap.size := World.block_lt_of_cell? w _ c0
              obtain ⟨e, r', hxe, hre, rfl⟩ := encs_cons (by rw [drop_cons hx] at hen; exact hen)
              have hask := get_enc x.1 hxo e r' aF hxe
              have hask2 := get_enc x.1 hxo e (r' ++ [120]) aF hxe
              obtain ⟨va, vc, hv, _⟩ := id hbo
              rw [hv] at c3 hbo
              rw [List.append_assoc] at hcar
              have HG := hid (fun W (hR : Rd W br ⟨e ++ r', none⟩) (hP : RPre W ⟨e ++ r', none⟩ aF) (hB : Bools W (.slice va x.1.fl.length vc) x.1.asked.fl) => get_any br ⟨e ++ r', none⟩ x.1.asked (.slice va x.1.fl.length vc) (asked_kind hxo) (asked_I64 hxo) aF W hR hP hB)
              have HQ := hid (fun W (hR : Rd W bq ⟨e ++ (r' ++ [120]), none⟩) (hP : RPre W ⟨e ++ (r' ++ [120]), none⟩ aF) (hB : Bools W (.slice va x.1.fl.length vc) x.1.asked.fl) => get_any bq ⟨e ++ (r' ++ [120]), none⟩ x.1.asked (.slice va x.1.fl.length vc) (asked_kind hxo) (asked_I64 hxo) aF W hR hP hB)
              rw [hask] at HG
              rw [hask2] at HQ
              have hD := its4 hcar hib c0 c1 c2 c3
              obtain ⟨d0, d1, d2, d3⟩ := id hD
              have hcd := hcar.drew
              have hafl : x.1.asked.fl = x.1.fl := asked_fl x.1
              have htl : x.1.told.fl.length ≤ 100000 := told_len hxo
              have hlen1 : (e ++ r').length ≤ 10000000 := by omega
              have hlen2 : (e ++ (r' ++ [120])).length ≤ 10000000 := by simp at hrl ⊢; omega
              have hkk := hxo.hk
              have HEN := hid hre
              have hrl2 : r'.length ≤ 60600 := by simp at hrl; omega
              clear hask hask2 hen hre hxe hv hrl
              go_wp2_with fail
              go_region_held3 (fun W => W.cell? ⟨ib, io + k * 4, none⟩ = some (.int .i64 x.1.kind) ∧ W.cell? ⟨ib, io + k * 4 + 1, none⟩ = some (.int .i64 x.1.N) ∧ W.cell? ⟨ib, io + k * 4 + 2, none⟩ = some (.string x.1.text) ∧ W.cell? ⟨ib, io + k * 4 + 3, none⟩ = some (.slice va x.1.fl.length vc)) (first | go_keep | (exact its4 (by assumption) hib c0 c1 c2 c3)) (first | (go_at_call 23; refine (asked_any x.1 _ hkk _ ?_).mono ?_; exact hbo.later (Car.bel (by assumption)); rintro e1 w' ⟨rfl, hbel⟩; have hcn := Car.new (by assumption) hbel) | (go_at_call 19; refine (HG.out _ ?_ ?_ ?_).mono ?_; exact Car.rd (by assumption); exact (hE.below h3 (Car.bel (by assumption))).rpre hlen1; rw [hafl]; exact hbo.later (Car.bel (by assumption)); rintro e1 w' ⟨⟨vg, rfl, hbg⟩, hrg, hkg⟩; have hcn := Car.got (by assumption) hrg hkg) | (go_at_call 24; refine (told_from x.1 _ hkk w _ hbo).mono ?_; rintro e1 w' ⟨⟨vt, rfl, hvt⟩, hbel⟩; have hcn := Car.new (by assumption) hbel) | (go_at_call 18; refine (same_eq x.1.told _ _ _ htl ?_ ?_).mono ?_; first | exact hbg | exact hbg.later (by assumption); exact hvt _ (Car.bel (by assumption)); rintro e1 w' ⟨rfl, hbel⟩; have hcn := Car.new (by assumption) hbel))
              obtain ⟨f0, f1, f2, f3⟩ := its4 hcn hib c0 c1 c2 c3
              have HC := hid hcn
              clear HG hcd hcar hD d0 d1 d2 d3 hvt hbg hrg hkg
              go_wp2_with (first | (go_at_call 23; refine (asked_any x.1 _ hkk _ ?_).mono ?_; exact hbo.later HC.out.bel; rintro e1 w5 ⟨rfl, hbel5⟩; have hcn5 := HC.out.new hbel5) | (go_at_call 19; refine (HQ.out _ ?_ ?_ ?_).mono ?_; exact hcn5.rq; exact (hE.below h3 hcn5.bel).rpre hlen2; rw [hafl]; exact hbo.later hcn5.bel; rintro e1 w6 ⟨⟨vq, rfl, hbq⟩, hrq, hkq⟩; have hcn6 := hcn5.gotq hrq hkq))
              exact ⟨⟨k + 1, r', by go_num, by omega, HEN.out, hrl2, hcn6⟩, by simp [intOf]; omega⟩
            · have hke : k = xs.length := by omega
              subst hke
              rw [List.drop_length] at hen
              cases hen
              go_wp2_with fail
              refine (left_any br _ _ hcar.rd).mono ?_
              rintro e1 w5 ⟨rfl, rfl⟩
              go_wp2_with fail
              refine (end_ok br _ hcar.rd).mono ?_
              rintro e1 w5 ⟨rfl, rfl⟩
              go_wp2_with fail
              refine (left_any bq _ _ hcar.rq).mono ?_
              rintro e1 w5 ⟨rfl, rfl⟩
              go_wp2_with fail
              refine (end_left bq 120 [] aF _ hcar.rq ((hE.below h3 hcar.bel).rpre (by simp))).mono ?_
              rintro e1 w5 ⟨v5, rfl, ⟨g5, rfl, hg5⟩, hbel5⟩
              go_wp2
              go_ret
              exact ⟨rfl, hcar.bel.trans (hbel5.mono hcar.bel.size)⟩
end Go.Proofs.YthngdaeiopgigaaDoor
