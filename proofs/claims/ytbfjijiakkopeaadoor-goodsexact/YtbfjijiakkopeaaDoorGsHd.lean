/- The document's goods: New; New that is refused. -/
import Derived.Test.YtbfjijiakkopeaaDoorGsHc
namespace Go.Proofs.YtbfjijiakkopeaaDoor.Gs
open Go.RowKit Go.Shelf Go.Maps
open Go.Proofs.YtbfjijiakkopeaaDoor.Sc (Cmp Rsc CmpRow RscRow SmallC SmallQ checkL rcheck_any check_any)
set_option maxHeartbeats 1600000 in
set_option maxRecDepth 100000 in
theorem rnew_no (w : World) (va vb : Value) (cs : List Cmp) (rs : List Rsc) (hC : CmpRow w va cs) (hQ : RscRow w vb rs) (hsC : SmallC cs) (hsQ : SmallQ rs) (hck : checkL cs rs ≠ []) :
    Calls Tryd.prog 8 #[.agg #[va, vb]] w fun e w' => e = .returned (.pointer none) ∧ Below w.heap.size w w' := by
  obtain ⟨w0, hw0⟩ : ∃ w0, w0 = w.alloc (.cells #[va, vb] 25) := ⟨_, rfl⟩
  have b0 : Below w.heap.size w w0 := by rw [hw0]; exact bAl _ _
  have r0 : w0.heap[w.heap.size]? = some (.cells #[va, vb] 25 (0, 0)) := by rw [hw0]; exact heap_alloc_new w _
  have CK := hid (rcheck_any w0 va vb cs rs (hC.later b0) (hQ.later b0) hsC hsQ)
  have hpos : 0 < (checkL cs rs).length := List.length_pos_iff.2 hck
  generalize (checkL cs rs).length = m at *
  generalize leafCells (checkL cs rs) = lc at *
  obtain ⟨a, c, rfl, hcap, -⟩ := hC
  obtain ⟨a', c', rfl, hcap', -⟩ := hQ
  have x0 : w0.cell? ⟨w.heap.size, 0, none⟩ = some (.slice a cs.length c) := cell_blk r0 rfl
  have x1 : w0.cell? ⟨w.heap.size, 1, none⟩ = some (.slice a' rs.length c') := cell_blk r0 rfl
  have hmi : (0 : Int) < (m : Int) := by omega
  have HW0 := hid hw0
  have B0 := hid b0
  clear hsC hsQ hck hw0 b0 r0 hcap hcap'
  go_enter Tryd.func8, Tryd.ntmps8
  go_upto_region 1 with fail
  rw [← HW0.out]
  go_wp2_with fail
  refine CK.out.mono ?_
  rintro e w1 ⟨lv, rfl, ho, hb⟩
  obtain ⟨la, lc', rfl⟩ := own_slice ho
  have BB := hid (B0.out.trans (hb.mono B0.out.size))
  clear CK ho hb x0 x1
  go_wp2_with fail
  go_ret
  exact ⟨rfl, BB.out⟩
/-- What an append of a number leaves, in the document's goods. -/
theorem step_numR {ops : Array Oper} {o : Oper} {a : Act} {K : Act → World → Prop} {Q : Exit → Act → World → Prop} {E : Prop} (hgd : o.guard = none) (s x : Operand)
    (ho : o.op = .call { callee := .builtin .append, args := #[s, x], argTypes := #[39, 39] }) {B gb : Nat} {wc : World} {v : Value} {l : List Int} {k : Int} (hown : wc.ownsRow B 3 1 v l.length (l.map gz)) (hl : l.length ≤ 1000) (hB : B ≤ wc.heap.size)
    {cs : Array Value} (hbox : wc.heap[gb]? = some (.cells cs 53 (0, 0))) (hcs : cs[2]? = some v) (hne : v.ownBlock ≠ some gb)
    (hs : a.eval s = v) (hx : a.eval x = .slice (some ⟨wc.heap.size, 0, none⟩) 1 1)
    (h : ∀ g' cap w2, Grew B v (l ++ [k]) wc (.slice (some ⟨g', 0, none⟩) (l.length + 1) cap) w2 → w2.cell? ⟨gb, 2, none⟩ = some v → w2.frozen? ⟨gb, 2, none⟩ = false → K (a.put o.dst (.slice (some ⟨g', 0, none⟩) (l.length + 1) cap)) w2) :
    if Region.wanted o (yielded ops a.tmps) = true then Oper.wp Tryd.prog o a (wc.alloc (.cells #[.int .i64 k] 3)).drew K Q else E := by
  obtain ⟨i0, hi, hz0, hz1, hz2⟩ := info_parts infoInt
  have hb : Below wc.heap.size wc (wc.alloc (.cells #[.int .i64 k] 3)).drew := ((Below.refl _ _).alloc (Nat.le_refl _) _).drew
  have ho2 : (wc.alloc (.cells #[.int .i64 k] 3)).drew.ownsRow B 3 1 v l.length (l.map gz) := hown.alloc _
  have hz : (wc.alloc (.cells #[.int .i64 k] 3)).drew.heap.size = wc.heap.size + 1 := by simp
  refine step_append_lies _ hgd s x 39 ho B 3 i0 (.int .i64 0) 1 8 Tryd.underlying39 hi hz0 hz1 hz2 rfl (by decide) v l.length (l.map gz) hs ho2 ⟨wc.heap.size, 0, none⟩ 1 1 [gz k] hx rfl (fun j u hu => by
    rw [add_at]
    match j, hu with
    | 0, hu =>
      simp at hu
      subst hu
      exact new_cell wc _ 3
    | j + 1, hu => simp at hu) (by intro u hu; simp at hu; subst hu; rfl) (by decide) (by unfold maxLen; omega) (by omega) (by omega) (wc.heap.size + 1) hz ?_
  intro g' cap w2 ow hg hat hlt
  have st : St (fun x => v.ownBlock = some x) wc w2 := (St.of_below hb).trans (St.of_grown (S := fun x => v.ownBlock = some x) hg fun k e => e) fun _ _ q => q
  have hbx : w2.heap[gb]? = some (.cells cs 53 (0, 0)) := st.at hbox hne
  refine h g' cap w2 ⟨?_, st, ?_⟩ (cell_blk hbx hcs) (blk_free hbx 2)
  · have e : (l ++ [k]).length = l.length + 1 := by simp
    rw [e, List.map_append]
    exact ow
  · rcases hat with h1 | h1
    · exact .inl (by rw [h1]; rfl)
    · exact .inr ⟨g', rfl, by omega⟩
theorem Ru.push {B : Nat} {wb w5 : World} {ub : Nat} {va vb v v' : Value} {l : List Int} {n : Nat} {x : Int} (h : Ru B wb ub va vb v l n) (hg : Grew B v (l ++ [x]) wb v' w5) (hl : l.length < 8) :
    Ru B (w5.setCell ⟨ub, 2, none⟩ v') ub va vb v' (l ++ [x]) n ∧ St (fun k => k = ub ∨ v.ownBlock = some k) wb (w5.setCell ⟨ub, 2, none⟩ v') := by
  have lg := (h.lt ub (.inl rfl)).2
  have hnv : ∀ x, v'.ownBlock = some x → x ≠ ub := fun x hx => by
    rcases hg.at' with h1 | ⟨y, h1, h2⟩
    · exact h.ne_row (h1 ▸ hx)
    · rw [h1] at hx; simp at hx; omega
  have b5 := hg.st.at h.box (fun e => h.ne_row e rfl)
  have s6 : St (fun k => k = ub) w5 (w5.setCell ⟨ub, 2, none⟩ v') := St.setCell _ rfl
  have b6 := heap_setCell_same _ ub 2 _ _ v' b5
  refine ⟨⟨by simpa using b6, own_later hg.own fun k _ hk hb => s6.at hb (hnv k hk), h.low, by simp; omega⟩, ?_⟩
  exact (show St (fun k => k = ub ∨ v.ownBlock = some k) wb w5 from ⟨hg.st.os, hg.st.tape, hg.st.output, hg.st.size, fun k hk hn => hg.st.block k hk fun e => hn (.inr e)⟩).trans s6 fun _ _ e => .inl e
set_option maxHeartbeats 4000000 in
set_option maxRecDepth 100000 in
theorem rnew_ok (w : World) (va vb : Value) (cs : List Cmp) (rs : List Rsc) (hC : CmpRow w va cs) (hQ : RscRow w vb rs) (hsC : SmallC cs) (hsQ : SmallQ rs) (hck : checkL cs rs = []) :
    Calls Tryd.prog 8 #[.agg #[va, vb]] w fun e w' => ∃ ub, e = .returned (.pointer (some ⟨ub, 0, none⟩)) ∧ (∃ uv, Ru w.heap.size w' ub va vb uv (rs.map Rsc.n) 0) ∧ Below w.heap.size w w' := by
  obtain ⟨h8, -⟩ := chk_res hck
  obtain ⟨w0, hw0⟩ : ∃ w0, w0 = w.alloc (.cells #[va, vb] 25) := ⟨_, rfl⟩
  have b0 : Below w.heap.size w w0 := by rw [hw0]; exact bAl _ _
  have r0 : w0.heap[w.heap.size]? = some (.cells #[va, vb] 25 (0, 0)) := by rw [hw0]; exact heap_alloc_new w _
  have CK := hid (rcheck_any w0 va vb cs rs (hC.later b0) (hQ.later b0) hsC hsQ)
  rw [hck] at CK
  have HQ := hid hQ
  obtain ⟨a, c, rfl, hcap, -⟩ := hC
  obtain ⟨a', c', rfl, hcap', -⟩ := hQ
  have x0 : w0.cell? ⟨w.heap.size, 0, none⟩ = some (.slice a cs.length c) := cell_blk r0 rfl
  have x1 : w0.cell? ⟨w.heap.size, 1, none⟩ = some (.slice a' rs.length c') := cell_blk r0 rfl
  have HW0 := hid hw0
  have B0 := hid b0
  have R0 := hid r0
  have h8i : (rs.length : Int) ≤ 8 := by omega
  clear hsC hsQ hck hw0 b0 r0 hcap hcap'
  go_enter Tryd.func8, Tryd.ntmps8
  go_upto_region 1 with fail
  rw [← HW0.out]
  go_wp2_with fail
  refine CK.out.mono ?_
  rintro e w1 ⟨lv, rfl, ho, hb⟩
  obtain ⟨la, lc', rfl⟩ := own_slice ho
  have r1 := blk_seen hb (Nat.le_refl _) R0.out
  have y0 : w1.cell? ⟨w.heap.size, 0, none⟩ = some (.slice a cs.length c) := cell_blk r1 rfl
  have y1 : w1.cell? ⟨w.heap.size, 1, none⟩ = some (.slice a' rs.length c') := cell_blk r1 rfl
  have B1 := hid (B0.out.trans (hb.mono B0.out.size))
  have hz1 : Hid (w.heap.size < w1.heap.size) := (Array.getElem?_eq_some_iff.1 r1).1
  obtain ⟨w3, hw3⟩ : ∃ w3, w3 = w1.alloc (.cells #[.slice a cs.length c, .slice a' rs.length c', .slice none 0 0, .int .i64 0] 53) := ⟨_, rfl⟩
  have b3 : Below w1.heap.size w1 w3 := by rw [hw3]; exact bAl _ _
  obtain ⟨ub, hub⟩ : ∃ ub, ub = w1.heap.size := ⟨_, rfl⟩
  have R3 : Hid (Ru w.heap.size w3 ub (.slice a cs.length c) (.slice a' rs.length c') (.slice none 0 0) [] 0) := ⟨by rw [hw3, hub]; exact heap_alloc_new w1 _, World.ownsRow_nil _ _ _ _, by rw [hub]; exact B1.out.size, by simp⟩
  have S3 : Hid (w3.heap[w.heap.size]? = some (.cells #[.slice a cs.length c, .slice a' rs.length c'] 25 (0, 0))) := blk_seen b3 (Nat.le_refl _) r1
  have B3 := hid (B1.out.trans (b3.mono B1.out.size))
  have HN : Hid (¬ w.heap.size = ub) := by show ¬ _; rw [hub]; have := hz1.out; omega
  have HW3 := hid hw3
  have HUB := hid hub
  clear CK ho hb x0 x1 r1 hw3 b3 hub
  go_upto_region 4 with fail
  rw [← HW3.out, ← HUB.out]
  clear HW3 HUB y0 y1
  go_wp2_with fail
  go_loopw [4] (fun i wr => ∃ (k : Nat) (v : Value), k ≤ rs.length ∧ i = .int .i64 (k : Int) ∧ Hid (Ru w.heap.size wr ub (.slice a cs.length c) (.slice a' rs.length c') v ((rs.take k).map Rsc.n) 0 ∧ wr.heap[w.heap.size]? = some (.cells #[.slice a cs.length c, .slice a' rs.length c'] 25 (0, 0)) ∧ Below w.heap.size w wr)) (fun i _ => rs.length - (intOf i).toNat)
  case atStart => exact ⟨0, _, Nat.zero_le _, rfl, R3.out, S3.out, B3.out⟩
  case round =>
    clear R3 S3 B3
    obtain ⟨k, v, hk, rfl, HK⟩ := hrel
    have s1 : wr.cell? ⟨w.heap.size, 1, none⟩ = some (.slice a' rs.length c') := cell_blk HK.out.2.1 rfl
    by_cases hlt : k < rs.length
    · have hki : (k : Int) < (rs.length : Int) := by omega
      obtain ⟨x, hx⟩ := at_lt rs k hlt
      obtain ⟨b, o, rfl, c1⟩ : ∃ b o, a' = some ⟨b, o, none⟩ ∧ wr.cell? ⟨b, o + k * 2 + 1, none⟩ = some (.int .i64 x.n) := by
        obtain ⟨a2, c2, hv, -, hl2⟩ := HQ.out.later HK.out.2.2
        obtain ⟨rfl, rfl⟩ : a' = a2 ∧ c' = c2 := by simpa using hv
        rcases hl2 with q | ⟨b, o, q1, q2⟩
        · rw [q] at hlt; simp at hlt
        · exact ⟨b, o, q1, (q2 k x hx).2⟩
      have hkn : ((rs.take k).map Rsc.n).length = k := by simp; omega
      obtain ⟨va, vc, hvv⟩ := HK.out.1.slice
      obtain ⟨ls, hls⟩ : ∃ ls, ls = (rs.take k).map Rsc.n := ⟨_, rfl⟩
      rw [← hls] at HK hvv hkn
      subst hvv
      have e2 := HK.out.1.c2
      have hr := HK.out.1
      have ROW := hid hr.row
      have BOX := hid hr.box
      have hne : (Value.slice va ls.length vc).ownBlock ≠ some ub := fun e => hr.ne_row e rfl
      have hBw : w.heap.size ≤ wr.heap.size := HK.out.2.2.size
      have hl9 : ls.length ≤ 1000 := by omega
      have hul := (hr.lt ub (.inl rfl)).2
      have hun : ¬ ub = wr.heap.size := by omega
      have hsl : w.heap.size < wr.heap.size := (Array.getElem?_eq_some_iff.1 HK.out.2.1).1
      have hsn : ¬ w.heap.size = wr.heap.size := by omega
      have hbl : b < wr.heap.size := World.block_lt_of_cell? wr _ c1
      have hbn : ¬ b = wr.heap.size := by omega
      have HTN := hid (take_next hx)
      have HLS := hid hls
      have HKN := hid hkn
      clear hr hls hkn hx
      go_wp2_with fail
      go_region_law (refine step_numR rfl _ _ rfl ROW.out hl9 hBw BOX.out rfl hne rfl rfl ?_; intro g' cap w5 hgr hx5 hf5)
      all_goals
        have NX : Hid (Ru w.heap.size (w5.setCell ⟨ub, 2, none⟩ (.slice (some ⟨g', 0, none⟩) (ls.length + 1) cap)) ub (.slice a cs.length c) (.slice (some ⟨b, o, none⟩) rs.length c') (.slice (some ⟨g', 0, none⟩) (ls.length + 1) cap) ((rs.take (k + 1)).map Rsc.n) 0 ∧ (w5.setCell ⟨ub, 2, none⟩ (.slice (some ⟨g', 0, none⟩) (ls.length + 1) cap)).heap[w.heap.size]? = some (.cells #[.slice a cs.length c, .slice (some ⟨b, o, none⟩) rs.length c'] 25 (0, 0)) ∧ Below w.heap.size w (w5.setCell ⟨ub, 2, none⟩ (.slice (some ⟨g', 0, none⟩) (ls.length + 1) cap))) := by
          obtain ⟨q1, q2⟩ := HK.out.1.push hgr (by have := HKN.out; omega)
          rw [HTN.out, List.map_append, ← HLS.out]
          refine ⟨q1, q2.at HK.out.2.1 ?_, HK.out.2.2.trans (q2.below (B := w.heap.size) (fun q e => (HK.out.1.lt q e).1) HK.out.2.2.size)⟩
          rintro (e | e)
          · exact HN.out e
          · obtain ⟨cur, hc⟩ := HK.out.1.row_at e
            rw [HK.out.2.1] at hc
            simp at hc
        clear hgr hx5 hf5 ROW BOX HLS e2 c1 s1
        go_wp2_with fail
        go_roundw
        case rel => exact ⟨k + 1, _, by omega, by go_num, NX.out⟩
        case measure => simp [intOf]; omega
    · have hki : ¬ (k : Int) < (rs.length : Int) := by omega
      obtain rfl : k = rs.length := by omega
      rw [List.take_of_length_le (Nat.le_refl _)] at HK
      go_wp2_with fail
      go_ret
      exact ⟨ub, rfl, ⟨v, HK.out.1⟩, HK.out.2.2⟩
set_option maxHeartbeats 1600000 in
set_option maxRecDepth 100000 in
theorem new_bad (Ad : Nat → Addr) (w : World) (va vb : Value) (cs : List Cmp) (rs : List Rsc) (hE : Env8 w Ad) (hC : CmpRow w va cs) (hQ : RscRow w vb rs) (hsC : SmallC cs) (hsQ : SmallQ rs) (hck : checkL cs rs ≠ []) :
    Calls Tryd.prog 7 #[.agg #[va, vb]] w fun e w' => ∃ t q, e = .returned (.tuple #[.pointer none, .iface t q]) ∧ Top Ad w'.heap.size w' 3 (.iface t q) (checkL cs rs) ∧ Below w.heap.size w w' := by
  obtain ⟨w0, hw0⟩ : ∃ w0, w0 = w.alloc (.cells #[va, vb] 25) := ⟨_, rfl⟩
  have b0 : Below w.heap.size w w0 := by rw [hw0]; exact bAl _ _
  have r0 : w0.heap[w.heap.size]? = some (.cells #[va, vb] 25 (0, 0)) := by rw [hw0]; exact heap_alloc_new w _
  have CK := hid (check_any Ad w0 va vb cs rs (hE.later b0) (hC.later b0) (hQ.later b0) hsC hsQ)
  obtain ⟨a, c, rfl, hcap, -⟩ := hC
  obtain ⟨a', c', rfl, hcap', -⟩ := hQ
  have x0 : w0.cell? ⟨w.heap.size, 0, none⟩ = some (.slice a cs.length c) := cell_blk r0 rfl
  have x1 : w0.cell? ⟨w.heap.size, 1, none⟩ = some (.slice a' rs.length c') := cell_blk r0 rfl
  have HW0 := hid hw0
  have B0 := hid b0
  have HCK := hid hck
  clear hE hsC hsQ hck hw0 b0 r0 hcap hcap'
  go_enter Tryd.func7, Tryd.ntmps7
  go_upto_region 1 with fail
  rw [← HW0.out]
  go_wp2_with fail
  refine CK.out.mono ?_
  rintro e w1 ⟨v1, rfl, ht, hb⟩
  obtain ⟨t, q, rfl⟩ : ∃ t q, v1 = .iface t q := by
    rcases ht.tr.isIface with rfl | q
    · exfalso
      refine HCK.out ?_
      rcases ht with ⟨-, q⟩ | ⟨p, -, q⟩ | ⟨b, vs, q, -⟩
      · exact q
      · obtain ⟨t, q', e, _⟩ := q.1.shape; cases e
      · cases q
    · exact q
  have HT := hid ht
  have BB := hid (B0.out.trans (hb.mono B0.out.size))
  clear CK ht hb x0 x1
  go_wp2_with fail
  go_ret2
  exact ⟨t, q, rfl, HT.out, BB.out⟩
end Go.Proofs.YtbfjijiakkopeaaDoor.Gs
