/- Goods: New of a schema that can be. -/
import Derived.Test.YtbfjijiakkopeaaDoorGsGe
namespace Go.Proofs.YtbfjijiakkopeaaDoor.Gs
open Go.RowKit Go.Shelf Go.Maps
open Go.Proofs.YtbfjijiakkopeaaDoor.Sc (Cmp Rsc CmpRow RscRow SmallC SmallQ checkL resL resL_next seenTo seenR_next seenB nErr isNm memB memB_iff at3 bRes bName manyL check_any)
theorem resL_nil {cs : List Cmp} {rs : List Rsc} : ∀ m k, k ≤ m → resL cs rs m = [] → resL cs rs k = []
  | 0, k, h, e => by obtain rfl : k = 0 := by omega
                     exact e
  | m + 1, k, h, e => by
    by_cases q : k = m + 1
    · subst q; exact e
    · refine resL_nil m k (by omega) ?_
      rw [resL] at e
      exact (List.append_eq_nil_iff.1 e).1
/-- What a schema that can be says of its resources. -/
theorem chk_res {cs : List Cmp} {rs : List Rsc} (h : checkL cs rs = []) : rs.length ≤ 8 ∧ ∀ (k : Nat) (r : Rsc), rs[k]? = some r → isNm r.s = true ∧ memB ((rs.take k).map Rsc.s) r.s = false := by
  unfold checkL at h
  obtain ⟨-, h2⟩ := List.append_eq_nil_iff.1 h
  obtain ⟨h3, h4⟩ := List.append_eq_nil_iff.1 h2
  have hl : rs.length ≤ 8 := by
    unfold manyL at h3
    split at h3
    · cases h3
    · omega
  have hN : ∀ (k : Nat) (r : Rsc), rs[k]? = some r → isNm r.s = true ∧ memB (seenTo (cs.map Cmp.s ++ (rs.take k).map Rsc.s)) r.s = false := by
    intro k r hr
    have hk := (List.getElem?_eq_some_iff.1 hr).1
    have e := resL_nil rs.length (k + 1) (by omega) h4
    rw [resL_next hr] at e
    have e2 := (List.append_eq_nil_iff.1 e).2
    unfold at3 at e2
    have e3 := List.map_eq_nil_iff.1 e2
    unfold nErr at e3
    cases q : isNm r.s with
    | false => rw [q] at e3; simp at e3
    | true =>
      rw [q] at e3
      refine ⟨rfl, ?_⟩
      cases q2 : memB (seenTo (cs.map Cmp.s ++ (rs.take k).map Rsc.s)) r.s with
      | false => rfl
      | true => rw [q2] at e3; simp at e3
  have hS : ∀ k, k ≤ rs.length → ∀ s, s ∈ (rs.take k).map Rsc.s → s ∈ seenTo (cs.map Cmp.s ++ (rs.take k).map Rsc.s) := by
    intro k
    induction k with
    | zero => intro _ s hs; simp at hs
    | succ k ih =>
      intro hk s hs
      obtain ⟨r, hr⟩ := at_lt rs k (by omega)
      rw [seenR_next hr]
      obtain ⟨q1, q2⟩ := hN k r hr
      unfold seenB
      rw [q1, q2]
      rw [take_next hr, List.map_append] at hs
      rcases List.mem_append.1 hs with hs | hs
      · exact List.mem_append.2 (.inl (ih (by omega) s hs))
      · exact List.mem_append.2 (.inr (by simpa using hs))
  refine ⟨hl, fun k r hr => ⟨(hN k r hr).1, ?_⟩⟩
  have hk := (List.getElem?_eq_some_iff.1 hr).1
  cases q : memB ((rs.take k).map Rsc.s) r.s with
  | false => rfl
  | true =>
    have := (hN k r hr).2
    rw [(memB_iff _ _).2 (hS k (by omega) _ ((memB_iff _ _).1 q))] at this
    cases this
theorem nm_size {s : ByteArray} (h : isNm s = true) : s.size ≤ 8 := by
  unfold isNm at h
  simp at h
  omega
/-- What an append of a number leaves. -/
structure Grew (B : Nat) (v : Value) (l : List Int) (wc : World) (v' : Value) (w2 : World) : Prop where
  own : w2.ownsRow B 3 1 v' l.length (l.map gz)
  st : St (fun x => v.ownBlock = some x) wc w2
  at' : v'.ownBlock = v.ownBlock ∨ ∃ x, v'.ownBlock = some x ∧ wc.heap.size ≤ x
theorem step_num {ops : Array Oper} {o : Oper} {a : Act} {K : Act → World → Prop} {Q : Exit → Act → World → Prop} {E : Prop} (hgd : o.guard = none) (s x : Operand)
    (ho : o.op = .call { callee := .builtin .append, args := #[s, x], argTypes := #[39, 39] }) {B gb : Nat} {wc : World} {v : Value} {l : List Int} {k : Int} (hown : wc.ownsRow B 3 1 v l.length (l.map gz)) (hl : l.length ≤ 1000) (hB : B ≤ wc.heap.size)
    {cs : Array Value} (hbox : wc.heap[gb]? = some (.cells cs 69 (0, 0))) (hcs : cs[1]? = some v) (hne : v.ownBlock ≠ some gb)
    (hs : a.eval s = v) (hx : a.eval x = .slice (some ⟨wc.heap.size, 0, none⟩) 1 1)
    (h : ∀ g' cap w2, Grew B v (l ++ [k]) wc (.slice (some ⟨g', 0, none⟩) (l.length + 1) cap) w2 → w2.cell? ⟨gb, 1, none⟩ = some v → w2.frozen? ⟨gb, 1, none⟩ = false → K (a.put o.dst (.slice (some ⟨g', 0, none⟩) (l.length + 1) cap)) w2) :
    if Region.wanted o (yielded ops a.tmps) = true then Oper.wp Tryd.prog o a (wc.alloc (.cells #[.int .i64 k] 3)).drew K Q else E := by
  obtain ⟨i0, hi, hz0, hz1, hz2⟩ := info_parts infoInt
  have hb : Below wc.heap.size wc (wc.alloc (.cells #[.int .i64 k] 3)).drew := ((Below.refl _ _).alloc (Nat.le_refl _) _).drew
  have ho2 : (wc.alloc (.cells #[.int .i64 k] 3)).drew.ownsRow B 3 1 v l.length (l.map gz) := hown.alloc _
  have hz : (wc.alloc (.cells #[.int .i64 k] 3)).drew.heap.size = wc.heap.size + 1 := by simp
  refine step_append_lies _ hgd s x 39 ho B 3 i0 (.int .i64 0) 1 8 Tryd.underlying39 hi hz0 hz1 hz2 rfl (by decide) v l.length (l.map gz) hs ho2 ⟨wc.heap.size, 0, none⟩ 1 1 [gz k] hx rfl (fun j u hu => by
    rw [add_at]
    match j, hu with
    | 0, hu =>
      simp at hu
      subst hu
      exact new_cell wc _ 3
    | j + 1, hu => simp at hu) (by intro u hu; simp at hu; subst hu; rfl) (by decide) (by unfold maxLen; omega) (by omega) (by omega) (wc.heap.size + 1) hz ?_
  intro g' cap w2 ow hg hat hlt
  have st : St (fun x => v.ownBlock = some x) wc w2 := (St.of_below hb).trans (St.of_grown (S := fun x => v.ownBlock = some x) hg fun k e => e) fun _ _ q => q
  have hbx : w2.heap[gb]? = some (.cells cs 69 (0, 0)) := st.at hbox hne
  refine h g' cap w2 ⟨?_, st, ?_⟩ (cell_blk hbx hcs) (blk_free hbx 1)
  · have e : (l ++ [k]).length = l.length + 1 := by simp
    rw [e, List.map_append]
    exact ow
  · rcases hat with h1 | h1
    · exact .inl (by rw [h1]; rfl)
    · exact .inr ⟨g', rfl, by omega⟩
/-- A resource more. -/
theorem Gd.push {B : Nat} {wb w5 : World} {gb mb : Nat} {v v' : Value} {ns : List ByteArray} {l : List Int} {n : Nat} {x : Int} (h : Gd B wb gb mb v ns l n) (hg : Grew B v (l ++ [x]) wb v' w5) (hl : l.length < 8) :
    Gd B (w5.setCell ⟨gb, 1, none⟩ v') gb mb v' ns (l ++ [x]) n ∧ St (Ft gb v) wb (w5.setCell ⟨gb, 1, none⟩ v') := by
  have lg := (h.lt gb (.inl rfl)).2
  have lm := (h.lt mb (.inr (.inl rfl))).2
  have hnv : ∀ x, v'.ownBlock = some x → x ≠ gb ∧ x ≠ mb := fun x hx => by
    rcases hg.at' with h1 | ⟨y, h1, h2⟩
    · exact h.ne_row (h1 ▸ hx)
    · rw [h1] at hx; simp at hx; omega
  have b5 := hg.st.at h.box (fun e => (h.ne_row e).1 rfl)
  have m5 := h.map.kept hg.st (fun e => (h.ne_row e).2 rfl)
  have s6 : St (fun k => k = gb) w5 (w5.setCell ⟨gb, 1, none⟩ v') := St.setCell _ rfl
  have b6 := heap_setCell_same _ gb 1 _ _ v' b5
  refine ⟨⟨by simpa using b6, m5.kept s6 h.ne_map.symm, own_later hg.own fun k _ hk hb => s6.at hb (hnv k hk).1, h.low, by simp; omega⟩, ?_⟩
  exact (show St (Ft gb v) wb w5 from ⟨hg.st.os, hg.st.tape, hg.st.output, hg.st.size, fun k hk hn => hg.st.block k hk fun e => hn (.inr e)⟩).trans s6 fun _ _ e => .inl e
theorem top_nil {Ad : Nat → Addr} {n₀ d : Nat} {W : World} {v : Value} (h : Top Ad n₀ W d v []) : v = .nilIface := by
  rcases h with ⟨q, -⟩ | ⟨p, q, -⟩ | ⟨b, vs, -, q, q2⟩
  · exact q
  · cases q
  · have := q2.two; rw [List.map_eq_nil_iff.1 q.symm] at this; simp at this
set_option maxHeartbeats 4000000 in
set_option maxRecDepth 100000 in
theorem new_ok (Ad : Nat → Addr) (w : World) (va vb : Value) (cs : List Cmp) (rs : List Rsc) (hE : Env8 w Ad) (hC : CmpRow w va cs) (hQ : RscRow w vb rs) (hsC : SmallC cs) (hsQ : SmallQ rs) (hck : checkL cs rs = []) :
    Calls Tryd.prog 7 #[.agg #[va, vb]] w fun e w' => ∃ gb, e = .returned (.tuple #[.pointer (some ⟨gb, 0, none⟩), .nilIface]) ∧ (∃ mb v, Gd w.heap.size w' gb mb v (rs.map Rsc.s) (rs.map Rsc.n) 0) ∧ Below w.heap.size w w' := by
  have hmm := @run_makeMap Tryd.prog
  obtain ⟨h8, hN⟩ := chk_res hck
  obtain ⟨w0, hw0⟩ : ∃ w0, w0 = w.alloc (.cells #[va, vb] 25) := ⟨_, rfl⟩
  have b0 : Below w.heap.size w w0 := by rw [hw0]; exact bAl _ _
  have r0 : w0.heap[w.heap.size]? = some (.cells #[va, vb] 25 (0, 0)) := by rw [hw0]; exact heap_alloc_new w _
  have CK := hid (check_any Ad w0 va vb cs rs (hE.later b0) (hC.later b0) (hQ.later b0) hsC hsQ)
  rw [hck] at CK
  have HQ := hid hQ
  obtain ⟨a, c, rfl, hcap, -⟩ := hC
  obtain ⟨a', c', rfl, hcap', -⟩ := hQ
  have x0 : w0.cell? ⟨w.heap.size, 0, none⟩ = some (.slice a cs.length c) := cell_blk r0 rfl
  have x1 : w0.cell? ⟨w.heap.size, 1, none⟩ = some (.slice a' rs.length c') := cell_blk r0 rfl
  have HW0 := hid hw0
  have B0 := hid b0
  have R0 := hid r0
  have HN := hid hN
  have h8i : (rs.length : Int) ≤ 8 := by omega
  clear hE hsC hsQ hck hw0 b0 r0 hN hcap hcap'
  go_enter Tryd.func7, Tryd.ntmps7
  go_upto_region 1 with fail
  rw [← HW0.out]
  go_wp2_with fail
  refine CK.out.mono ?_
  rintro e w1 ⟨v1, rfl, ht, hb⟩
  obtain rfl := top_nil ht
  have R1 := hid (blk_seen hb (Nat.le_refl _) R0.out)
  have B1 := hid (B0.out.trans (hb.mono B0.out.size))
  have hz1 : Hid (w.heap.size < w1.heap.size) := by
    have := (Array.getElem?_eq_some_iff.1 R1.out).1
    exact this
  obtain ⟨w2, hw2⟩ : ∃ w2, w2 = w1.alloc (.map #[] 0) := ⟨_, rfl⟩
  obtain ⟨w3, hw3⟩ : ∃ w3, w3 = w2.alloc (.cells #[.map (some w1.heap.size), .slice none 0 0, .int .i64 0] 69) := ⟨_, rfl⟩
  have b2 : Below w1.heap.size w1 w2 := by rw [hw2]; exact bAl _ _
  have b3 : Below w2.heap.size w2 w3 := by rw [hw3]; exact bAl _ _
  have hs2 : w2.heap.size = w1.heap.size + 1 := by rw [hw2]; simp
  have m2 : Mn w2 w1.heap.size [] := by rw [hw2]; exact mn_made w1
  have G3 : Hid (Gd w.heap.size w3 w2.heap.size w1.heap.size (.slice none 0 0) [] [] 0) := ⟨by rw [hw3]; exact heap_alloc_new w2 _, m2.kept (T := fun _ => False) (St.of_below b3) fun q => q, World.ownsRow_nil _ _ _ _, ⟨by have := hz1.out; omega, by have := hz1.out; omega⟩, by simp⟩
  have B3 := hid (B1.out.trans ((b2.trans (b3.mono b2.size)).mono B1.out.size))
  have x3 : w3.cell? ⟨w.heap.size, 1, none⟩ = some (.slice a' rs.length c') := cell_blk (blk_seen b3 (Nat.le_refl _) (blk_seen b2 (Nat.le_refl _) R1.out)) rfl
  have HW2 := hid hw2
  have HW3 := hid hw3
  have HS2 := hid hs2
  obtain ⟨gb, hgb⟩ : ∃ gb, gb = w2.heap.size := ⟨_, rfl⟩
  obtain ⟨mb, hmb⟩ : ∃ mb, mb = w1.heap.size := ⟨_, rfl⟩
  rw [← hgb, ← hmb] at G3
  clear ht hb b2 b3 hs2 m2 hw2 hw3 CK x0 x1
  have HGB := hid hgb
  have HMB := hid hmb
  clear hgb hmb
  go_upto_region 5 with fail
  rw [← HW2.out, ← HW3.out]
  rw [← HS2.out, ← HGB.out, ← HMB.out]
  clear HW2 HW3 HS2 HGB HMB hmm hz1 R1 B1
  go_wp2_with fail
  go_loopw [6, 7, 19] (fun _ _ i wr => ∃ (k : Nat) (v : Value), k ≤ rs.length ∧ i = .int .i64 (k : Int) ∧ Hid (Gd w.heap.size wr gb mb v ((rs.take k).map Rsc.s) ((rs.take k).map Rsc.n) 0 ∧ Below w.heap.size w wr)) (fun _ _ i _ => rs.length - (intOf i).toNat)
  case atStart => exact ⟨0, _, Nat.zero_le _, rfl, G3.out, B3.out⟩
  case round =>
    clear x3 G3 B3
    obtain ⟨k, v, hk, rfl, HK⟩ := hrel
    by_cases hlt : k < rs.length
    · have hki : (k : Int) < (rs.length : Int) := by omega
      obtain ⟨x, hx⟩ := at_lt rs k hlt
      obtain ⟨b, o, rfl, c0, c1⟩ : ∃ b o, a' = some ⟨b, o, none⟩ ∧ wr.cell? ⟨b, o + k * 2, none⟩ = some (.string x.s) ∧ wr.cell? ⟨b, o + k * 2 + 1, none⟩ = some (.int .i64 x.n) := by
        obtain ⟨a2, c2, hv, -, hl2⟩ := HQ.out.later HK.out.2
        obtain ⟨rfl, rfl⟩ : a' = a2 ∧ c' = c2 := by simpa using hv
        rcases hl2 with q | ⟨b, o, q1, q2⟩
        · rw [q] at hlt; simp at hlt
        · exact ⟨b, o, q1, q2 k x hx⟩
      obtain ⟨hnm, hmem⟩ := HN.out k x hx
      have hsz := nm_size hnm
      have hkl : ((rs.take k).map Rsc.s).length = k := by simp; omega
      have hkn : ((rs.take k).map Rsc.n).length = k := by simp; omega
      obtain ⟨va, vc, hvv⟩ := HK.out.1.slice
      obtain ⟨wa, hwa⟩ : ∃ wa, wa = wr.alloc (.cells #[.string x.s, .int .i64 x.n] 65) := ⟨_, rfl⟩
      have ba : Below wr.heap.size wr wa := by rw [hwa]; exact bAl _ _
      have ra : wa.heap[wr.heap.size]? = some (.cells #[.string x.s, .int .i64 x.n] 65 (0, 0)) := by rw [hwa]; exact heap_alloc_new wr _
      have bd : Below wa.heap.size wa wa.drew := (Below.refl _ _).drew
      have ga := HK.out.1.later ba
      have gd := ga.later bd
      obtain ⟨wb, hr, hm, hs⟩ := gd.map.store hmem (by omega) (by unfold maxLen; omega) Tryd.underlying67
      rw [hkl] at hr
      have gB : Gd w.heap.size wb gb mb v ((rs.take k).map Rsc.s ++ [x.s]) ((rs.take k).map Rsc.n) 0 := ⟨hs.at gd.box gd.ne_map, hm, own_later gd.row fun q _ hq hb => hs.at hb (gd.ne_row hq).2, gd.low, gd.few⟩
      have rb := hs.at (blk_seen bd (Nat.le_refl _) ra) (by have := (HK.out.1.lt mb (.inr (.inl rfl))).2; omega)
      have bw : Below w.heap.size w wb := (HK.out.2.trans ((ba.trans (bd.mono ba.size)).mono HK.out.2.size)).trans (hs.below (B := w.heap.size) (fun q e => by rw [e]; exact gd.low.2) (HK.out.2.trans ((ba.trans (bd.mono ba.size)).mono HK.out.2.size)).size)
      have K1 : Hid (wa.drew.cell? ⟨gb, 0, none⟩ = some (.map (some mb)) ∧ wa.drew.cell? ⟨wr.heap.size, 0, none⟩ = some (.string x.s)) := ⟨gd.c0, cell_blk (W := wa.drew) ra rfl⟩
      have K2 : Hid (wb.cell? ⟨gb, 0, none⟩ = some (.map (some mb)) ∧ wb.cell? ⟨wr.heap.size, 0, none⟩ = some (.string x.s)) := ⟨gB.c0, cell_blk rb rfl⟩
      have e1 : wb.cell? ⟨gb, 1, none⟩ = some v := gB.c1
      have e2 : wb.cell? ⟨wr.heap.size, 1, none⟩ = some (.int .i64 x.n) := cell_blk rb rfl
      have HGB := hid gB
      have HBW := hid bw
      have HWA := hid hwa
      have HTN := hid (take_next hx)
      have hnl : gb < wb.heap.size := (gB.lt gb (.inl rfl)).2
      have hnn : ¬ gb = wb.heap.size := by omega
      have hne : v.ownBlock ≠ some gb := fun e => (gB.ne_row e).1 rfl
      have hB2 : w.heap.size ≤ wb.heap.size := bw.size
      have hnl2 : ((rs.take k).map Rsc.n).length ≤ 1000 := by omega
      obtain ⟨ns, hns⟩ : ∃ ns, ns = (rs.take k).map Rsc.s := ⟨_, rfl⟩
      obtain ⟨ls, hls⟩ : ∃ ls, ls = (rs.take k).map Rsc.n := ⟨_, rfl⟩
      rw [← hns, ← hls] at HGB
      rw [← hls] at hnl2 hkn
      have HNS := hid hns
      have HLS := hid hls
      have HKN := hid hkn
      rw [← hls] at hvv
      subst hvv
      clear hnm hmem hsz hkl ba ra bd ga gd hm hs gB rb bw hwa HK hns hls hkn hx
      go_upto_region 8 with fail
      rw [← HWA.out]
      go_region_held3 (fun W' => W'.cell? ⟨gb, 0, none⟩ = some (.map (some mb)) ∧ W'.cell? ⟨wr.heap.size, 0, none⟩ = some (.string x.s)) (first | exact K1.out | exact K2.out) (fail)
      clear hr K1 K2 c0 c1
      go_upto_region 9 with fail
      go_region_law (refine step_num rfl _ _ rfl HGB.out.row hnl2 hB2 HGB.out.box rfl hne rfl rfl ?_; intro g' cap w5 hgr hx5 hf5)
      all_goals
        have NX : Hid (Gd w.heap.size (w5.setCell ⟨gb, 1, none⟩ (.slice (some ⟨g', 0, none⟩) (ls.length + 1) cap)) gb mb (.slice (some ⟨g', 0, none⟩) (ls.length + 1) cap) ((rs.take (k + 1)).map Rsc.s) ((rs.take (k + 1)).map Rsc.n) 0 ∧ Below w.heap.size w (w5.setCell ⟨gb, 1, none⟩ (.slice (some ⟨g', 0, none⟩) (ls.length + 1) cap))) := by
          obtain ⟨q1, q2⟩ := HGB.out.push hgr (by have := HKN.out; omega)
          rw [HTN.out, List.map_append, List.map_append, ← HNS.out, ← HLS.out]
          refine ⟨q1, HBW.out.trans (q2.below (B := w.heap.size) (fun q e => ?_) HBW.out.size)⟩
          exact (HGB.out.lt q e.all).1
        clear hgr hx5 hf5 HGB HNS HLS e1 e2
        go_wp2_with fail
        go_roundw
        case rel => exact ⟨k + 1, _, by omega, by go_num, NX.out⟩
        case measure => simp [intOf]; omega
    · have hki : ¬ (k : Int) < (rs.length : Int) := by omega
      obtain rfl : k = rs.length := by omega
      rw [List.take_of_length_le (Nat.le_refl _)] at HK
      go_wp2_with fail
      go_ret2
      exact ⟨gb, rfl, ⟨mb, v, HK.out.1⟩, HK.out.2⟩
end Go.Proofs.YtbfjijiakkopeaaDoor.Gs
