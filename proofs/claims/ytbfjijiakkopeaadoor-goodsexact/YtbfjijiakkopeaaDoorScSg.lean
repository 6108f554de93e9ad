/- Check: the walk. -/
import Derived.Test.YtbfjijiakkopeaaDoorScSf
import Derived.Deep.RegionHeld3
import Derived.Deep.AppendLies
import Derived.Deep.DrawnRows
import Derived.Deep.Cut
namespace Go.Proofs.YtbfjijiakkopeaaDoor.Sc
open Go.RowKit Go.Shelf
attribute [local go_sem ↓] Go.wp_at_zero Go.wp_at_succ
theorem resL_next {cs : List Cmp} {rs : List Rsc} {k : Nat} {r : Rsc} (h : rs[k]? = some r) : resL cs rs (k + 1) = resL cs rs k ++ at3 bRes k bName (nErr (seenTo (cs.map Cmp.s ++ (rs.take k).map Rsc.s)) r.s) := by simp [resL, h]
theorem seenR_next {cs : List Cmp} {rs : List Rsc} {k : Nat} {r : Rsc} (h : rs[k]? = some r) : seenTo (cs.map Cmp.s ++ (rs.take (k + 1)).map Rsc.s) = seenB (seenTo (cs.map Cmp.s ++ (rs.take k).map Rsc.s)) r.s := by
  rw [take_next h, List.map_append, List.map_cons, List.map_nil, ← List.append_assoc, seenTo_snoc]
/-- append of a component's three errors, at a step of a region that draws its order. -/
theorem step_errs3 {ops : Array Oper} {o : Oper} {a : Act} {K : Act → World → Prop} {Q : Exit → Act → World → Prop} {E : Prop} (hgd : o.guard = none) (s x : Operand)
    (ho : o.op = .call { callee := .builtin .append, args := #[s, x], argTypes := #[96, 96] })
    {Ad : Nat → Addr} {w wc : World} {mb B n g : Nat} {acc : List ByteArray} {ev : Value} {us vs : List (Value × Leaves)} {y : Cmp} (hC : C6 Ad w mb B n acc ev us g y vs wc) {v1 v2 v3 : Value} (hvs : vs.map Prod.fst = [v1, v2, v3]) (h0 : 0 < us.length) (hul : us.length ≤ 1000)
    (hs : a.eval s = ev) (hx : a.eval x = .slice (some ⟨wc.heap.size, 0, none⟩) 3 3)
    (h : ∀ g' cap w2, C6 Ad w mb B n acc (.slice (some ⟨g', 0, none⟩) (us.length + 3) cap) (us ++ vs) g y [] w2 → K (a.put o.dst (.slice (some ⟨g', 0, none⟩) (us.length + 3) cap)) w2) :
    if Region.wanted o (yielded ops a.tmps) = true then Oper.wp Tryd.prog o a (wc.alloc (.cells #[v1, v2, v3] 30)) K Q else E := by
  obtain ⟨i0, hi, hz0, hz1, hz2⟩ := info_parts Tryd.infoErr
  have hone : ∀ u ∈ [v1, v2, v3], u.oneCell' = true := by
    intro u hu
    rw [← hvs] at hu
    obtain ⟨p, hp, rfl⟩ := List.mem_map.1 hu
    exact (hC.one p hp).cell.1
  have hown : (wc.alloc (.cells #[v1, v2, v3] 30)).ownsRow B 30 1 ev us.length (us.map Prod.fst) := hC.ck.row.alloc _
  have hvl : vs.length = 3 := by have := congrArg List.length hvs; simpa using this
  refine step_append_lies _ hgd s x 96 ho B 30 i0 .nilIface 1 16 Tryd.underlying96 hi hz0 hz1 hz2 rfl (by decide) ev us.length (us.map Prod.fst) hs hown ⟨wc.heap.size, 0, none⟩ 3 3 [v1, v2, v3] hx rfl (fun j u hu => by rw [add_at]; exact row_cell wc [v1, v2, v3] 30 j u hu) hone (by decide) (by unfold maxLen; omega) (by omega) (Nat.le_trans hC.ck.high (by simp)) (wc.alloc (.cells #[v1, v2, v3] 30)).heap.size rfl ?_
  intro g' cap w2 ow hg _ _
  have e : us.length + 3 = (us.map Prod.fst ++ [v1, v2, v3]).length := by simp
  refine h g' cap w2 ?_
  have hC1 := hC.later (show Below wc.heap.size wc (wc.alloc (.cells #[v1, v2, v3] 30)) from (Below.refl _ _).alloc (Nat.le_refl _) _)
  have hne : some g ≠ ev.ownBlock := fun hh => hC1.ck.nt g hh.symm y.s hC1.c0
  have S := fun {j : Nat} {u : Value} (h : (wc.alloc (.cells #[v1, v2, v3] 30)).cell? ⟨g, j, none⟩ = some u) => hg.cell (a := ⟨g, j, none⟩) h hne
  rw [e] at ow ⊢
  exact ⟨hC.ck.app h0 hC.one (by rw [hvs]) ow hg, S hC1.c0, S hC1.c1, S hC1.c2, S hC1.c3, S hC1.c4, S hC1.c5, S hC1.c6, by simp⟩
set_option maxHeartbeats 4000000 in
set_option maxRecDepth 100000 in
theorem check_any (Ad : Nat → Addr) (w : World) (va vb : Value) (cs : List Cmp) (rs : List Rsc) (hE : Env8 w Ad) (hC : CmpRow w va cs) (hQ : RscRow w vb rs) (hsC : SmallC cs) (hsQ : SmallQ rs) :
    Calls Tryd.prog 27 #[.agg #[va, vb]] w fun e w' => ∃ v', e = .returned v' ∧ Top Ad w'.heap.size w' 3 v' (checkL cs rs) ∧ Below w.heap.size w w' := by
  have hmm := @run_makeMap Tryd.prog
  obtain ⟨a, c, rfl, hcap, hlay⟩ := hC
  obtain ⟨a', c', rfl, hcap', hlay'⟩ := hQ
  have HL := hid hlay
  have HL' := hid hlay'
  have h40 : cs.length ≤ 40 := hsC.1
  have h40' : rs.length ≤ 40 := hsQ.1
  have h40i : (cs.length : Int) ≤ 40 := by omega
  have h40i' : (rs.length : Int) ≤ 40 := by omega
  have HSC := hid hsC
  have HSQ := hid hsQ
  have HE := hid hE
  clear hE hsC hsQ hlay hlay'
  go_enter Tryd.func27, Tryd.ntmps27
  go_wp2_with fail
  obtain ⟨w0, hw0⟩ : ∃ w0, w0 = w.alloc (.cells #[.slice a cs.length c, .slice a' rs.length c'] 25) := ⟨_, rfl⟩
  have hsz : Hid (w0.heap.size = w.heap.size + 1) := by rw [hw0]; simp [Hid]
  have B0 : Hid (Below w.heap.size w w0) := by rw [hw0]; exact (Below.refl _ _).alloc (Nat.le_refl _) _
  obtain ⟨x0, x1⟩ := cell_new2 w (.slice a cs.length c) (.slice a' rs.length c') 25
  rw [← hw0] at x0 x1 ⊢
  have X0 := hid x0
  have X1 := hid x1
  have MM : Hid (MapN (w0.alloc (.map #[] 0)) (w.heap.size + 1) 0 []) := by rw [← hsz.out]; exact World.ownsMap_made w0 Tryd.prog 9 _
  have BM : Hid (Below w0.heap.size w0 (w0.alloc (.map #[] 0))) := (Below.refl _ _).alloc (Nat.le_refl _) _
  have hszM : Hid ((w0.alloc (.map #[] 0)).heap.size = w.heap.size + 2) := by have := hsz.out; simp [Hid, this]
  have E0 := hid (HE.out.later B0.out)
  have T1 := hid (toomany_any Ad (w0.alloc (.map #[] 0)) (E0.out.later BM.out) ⟨#[99, 111, 109, 112, 111, 110, 101, 110, 116, 115]⟩ (cs.length : Int) 16)
  clear hw0 x0 x1 hmm
  refine T1.out.mono ?_
  rintro e w2 ⟨v2, rfl, o2, hb2⟩
  obtain ⟨hc2, -⟩ := (show v2.cells = #[v2] ∧ v2.oneCell' = true from by
    rcases o2 with ⟨rfl, -⟩ | ⟨p, -, h⟩
    · exact ⟨rfl, rfl⟩
    · obtain ⟨t, q, rfl, -⟩ := h.1.shape
      exact ⟨rfl, rfl⟩)
  unfold Value.cells at hc2
  have K3 : Hid (Ckd Ad w0 (w.heap.size + 1) (w.heap.size + 2) 0 [] (.slice (some ⟨w2.heap.size, 0, none⟩) 1 1) [(v2, manyL bComps 16 cs.length)] (w2.alloc (.cells #[v2] 30))) := by
    have b3 : Below w2.heap.size w2 (w2.alloc (.cells #[v2] 30)) := (Below.refl _ _).alloc (Nat.le_refl _) _
    have hs := hszM.out
    have hs2 := hb2.size
    have hs0 := hsz.out
    have b13 := hb2.trans (b3.mono hb2.size)
    refine ⟨MM.out.later b13, ?_, ?_, ?_, BM.out.trans (b13.mono BM.out.size), ⟨by omega, by omega⟩, ?_⟩
    · exact World.ownsRow_lit (base := w.heap.size + 2) (e := 30) (size := 1) w2 #[v2] 1 (by omega) (by unfold maxLen; omega) (by simp)
    · intro g hg s hs
      obtain rfl : w2.heap.size = g := by simpa [Value.ownBlock] using hg
      rw [new_cell w2 v2 30] at hs
      exact o2.cell.2 s (by simpa using hs)
    · intro u hu
      simp at hu
      subst hu
      exact o2.move b3 b3.size
    · simp; omega
  have B12 := hid (BM.out.trans (hb2.mono BM.out.size))
  have y0 := Below.seen B12.out (Nat.le_refl _) X0.out
  have y1 := Below.seen B12.out (Nat.le_refl _) X1.out
  have hl2 : w.heap.size < w2.heap.size := World.block_lt_of_cell? w2 _ y0
  have hn2 : ¬ (w.heap.size = w2.heap.size) := by omega
  clear o2 hb2 T1 MM BM
  go_wp2_with fail
  go_loopw [4, 5, 6, 18] (fun ev _ _ i wr => ∃ k : Nat, k ≤ cs.length ∧ i = .int .i64 (k : Int) ∧ ∃ us, Hid (Ckd Ad w0 (w.heap.size + 1) (w.heap.size + 2) k (seenTo ((cs.take k).map Cmp.s)) ev us wr ∧ 0 < us.length ∧ us.length ≤ 1 + 3 * k ∧ flat us = manyL bComps 16 cs.length ++ compL cs k)) (fun _ _ _ i _ => cs.length - (intOf i).toNat)
  case atStart => exact ⟨0, Nat.zero_le _, rfl, _, K3.out, by simp, by simp, by simp [flat, compL]⟩
  case round =>
    obtain ⟨k, hk, rfl, us, HK⟩ := hrel
    obtain ⟨ck, hu0, hul, hfl⟩ := HK.out
    have CK := hid ck
    have HF := hid hfl
    by_cases hlt : k < cs.length
    · have hki : (k : Int) < (cs.length : Int) := by omega
      obtain ⟨x, hx⟩ := at_lt cs k hlt
      obtain ⟨b, o, rfl, hc⟩ : ∃ b o, a = some ⟨b, o, none⟩ ∧ ∀ (j : Nat) (x : Cmp), cs[j]? = some x → w.cell? ⟨b, o + j * 7, none⟩ = some (.string x.s) ∧ w.cell? ⟨b, o + j * 7 + 1, none⟩ = some (.int .i64 x.wd) ∧ w.cell? ⟨b, o + j * 7 + 2, none⟩ = some (.bool x.rb) ∧ w.cell? ⟨b, o + j * 7 + 3, none⟩ = some (.int .i64 x.d0) ∧ w.cell? ⟨b, o + j * 7 + 4, none⟩ = some (.int .i64 x.d1) ∧ w.cell? ⟨b, o + j * 7 + 5, none⟩ = some (.int .i64 x.d2) ∧ w.cell? ⟨b, o + j * 7 + 6, none⟩ = some (.int .i64 x.d3) := by
        rcases HL.out with h | h
        · rw [h] at hlt; simp at hlt
        · exact h
      have BW := hid (B0.out.trans (ck.bel.mono B0.out.size))
      obtain ⟨c0, c1, c2, c3, c4, c5, c6⟩ := hc k x hx
      have S := fun {p : Addr} {u : Value} (h : w.cell? p = some u) => Below.seen BW.out (Nat.le_refl _) h
      have c0 := S c0
      have c1 := S c1
      have c2 := S c2
      have c3 := S c3
      have c4 := S c4
      have c5 := S c5
      have c6 := S c6
      have CN := hid (compL_next hx)
      have SN := hid (seen_next hx)
      obtain ⟨acc, HA⟩ : ∃ acc, Hid (acc = seenTo ((cs.take k).map Cmp.s)) := ⟨_, rfl⟩
      rw [← HA.out] at CK CN SN
      clear S hc hx ck hfl HK HA
      have K6 : Hid (C6 Ad w0 (w.heap.size + 1) (w.heap.size + 2) k acc u4 us wr.heap.size x [] (wr.alloc (.cells #[.string x.s, .int .i64 x.wd, .bool x.rb, .int .i64 x.d0, .int .i64 x.d1, .int .i64 x.d2, .int .i64 x.d3] 80))) := by
        have b : Below wr.heap.size wr (wr.alloc (.cells #[.string x.s, .int .i64 x.wd, .bool x.rb, .int .i64 x.d0, .int .i64 x.d1, .int .i64 x.d2, .int .i64 x.d3] 80)) := (Below.refl _ _).alloc (Nat.le_refl _) _
        have R := fun (j : Nat) (u : Value) (h : [Value.string x.s, .int .i64 x.wd, .bool x.rb, .int .i64 x.d0, .int .i64 x.d1, .int .i64 x.d2, .int .i64 x.d3][j]? = some u) => row_cell wr _ 80 j u h
        exact ⟨CK.out.later b, R 0 _ rfl, R 1 _ rfl, R 2 _ rfl, R 3 _ rfl, R 4 _ rfl, R 5 _ rfl, R 6 _ rfl, by simp⟩
      go_wp2_with fail
      generalize hwq : wr.alloc (.cells #[.string x.s, .int .i64 x.wd, .bool x.rb, .int .i64 x.d0, .int .i64 x.d1, .int .i64 x.d2, .int .i64 x.d3] 80) = wq at *
      have k6 := K6.out
      clear hwq c0 c1 c2 c3 c4 c5 c6
      obtain ⟨c0, c1, c2, c3, c4, c5, c6⟩ := k6.cells
      have k6d := k6.drew
      generalize wr.heap.size = g6 at *
      have h1000 : us.length ≤ 1000 := by omega
      go_region_held3 (fun W => W.cell? ⟨g6, 0, none⟩ = some (.string x.s) ∧ W.cell? ⟨g6, 1, none⟩ = some (.int .i64 x.wd) ∧ W.cell? ⟨g6, 2, none⟩ = some (.bool x.rb) ∧ W.cell? ⟨g6, 3, none⟩ = some (.int .i64 x.d0) ∧ W.cell? ⟨g6, 4, none⟩ = some (.int .i64 x.d1) ∧ W.cell? ⟨g6, 5, none⟩ = some (.int .i64 x.d2) ∧ W.cell? ⟨g6, 6, none⟩ = some (.int .i64 x.d3)) (first | go_keep | (exact C6.cells (by assumption))) (first
        | (go_at_call 43; refine (take_any Ad _ (C6.env (by assumption) E0.out) (w.heap.size + 1) k _ (C6.ck (by assumption)).map (by omega) x.s).mono ?_; rintro e w7 ⟨rfl, hm7, hg7⟩; have h7 := C6.took (by assumption) hm7 hg7)
        | (go_at_call 42; refine (way3 Ad _ _ _ k (by omega) _ (by first | exact nErr_len _ _ | exact wErr_len _ | exact dErr_len _)).mono ?_; rintro e w8 ⟨v8, rfl, o8, hb8⟩; have h8 := C6.push (by assumption) hb8 o8; have s8 := o8.shape; unfold Value.cells at s8)
        | (go_at_call 44; refine (width7 Ad _ (C6.env (by assumption) E0.out) x).mono ?_; rintro e w9 ⟨rfl, hb9⟩; have h9 := C6.later (by assumption) hb9)
        | (go_at_call 45; refine (default7 Ad _ (C6.env (by assumption) E0.out) x).mono ?_; rintro e w9 ⟨rfl, hb9⟩; have h9 := C6.later (by assumption) hb9)
        | (refine step_errs3 (by rfl) _ _ (by rfl) (by assumption) (by rfl) hu0 h1000 (by rfl) (by rfl) ?_; intro g9 cap9 w10 hk10))
      have NX : Hid (∃ us', Ckd Ad w0 (w.heap.size + 1) (w.heap.size + 2) (k + 1) (seenTo ((cs.take (k + 1)).map Cmp.s)) (.slice (some ⟨g9, 0, none⟩) (us.length + 3) cap9) us' w10 ∧ 0 < us'.length ∧ us'.length ≤ 1 + 3 * (k + 1) ∧ flat us' = manyL bComps 16 cs.length ++ compL cs (k + 1)) := by
        have e := hk10.ck
        rw [← SN.out] at e
        refine ⟨_, e, by simp, by simp; omega, ?_⟩
        rw [flat_app, HF.out, CN.out, List.append_assoc]
        congr 2
        simp only [flat, leafC, List.nil_append, List.cons_append, List.map_cons, List.map_nil, List.flatten_cons, List.flatten_nil, List.append_nil]
        rfl
      clear hk10 h9 h8 h7 k6d k6 c0 c1 c2 c3 c4 c5 c6 o8 hb8 hm7 hg7 hb9
      go_wp2_with fail
      go_roundw
      case rel =>
        obtain ⟨us', hus'⟩ := NX.out
        exact ⟨k + 1, by omega, by go_num, us', hus'⟩
      case measure => simp [intOf]; omega
    · have hki : ¬ ((k : Int) < (cs.length : Int)) := by omega
      obtain rfl : k = cs.length := by omega
      rw [List.take_of_length_le (Nat.le_refl _)] at CK
      have x1 := Below.seen CK.out.bel (Nat.le_refl _) X1.out
      have T2 := hid (toomany_any Ad wr (E0.out.later CK.out.bel) ⟨#[114, 101, 115, 111, 117, 114, 99, 101, 115]⟩ (rs.length : Int) 8)
      obtain ⟨pa, pc, rfl⟩ := own_slice CK.out.row
      clear ck hfl HK
      go_wp2_with fail
      refine T2.out.mono ?_
      rintro e w5 ⟨v5, rfl, o5, hb5⟩
      have s5 := o5.shape
      unfold Value.cells at s5
      have CK5 := hid (CK.out.later hb5)
      have hum : (us.map Prod.fst).length = us.length := List.length_map _
      have OW : Hid ((w5.alloc (.cells #[v5] 30)).ownsRow (w.heap.size + 2) 30 1 (.slice pa us.length pc) (us.map Prod.fst).length (us.map Prod.fst)) := by rw [hum]; exact CK5.out.row.alloc _
      have A1 := hid (app_cell w5 v5)
      have A2 : Hid (∀ z ∈ [v5], z.oneCell' = true) := by intro z hz; simp at hz; rw [hz]; exact o5.cell.1
      have A3 : Hid ((us.map Prod.fst).length + [v5].length ≤ 5000) := by show _ ≤ _; rw [hum]; simp; omega
      have hBs : w.heap.size + 2 ≤ (w5.alloc (.cells #[v5] 30)).heap.size := Nat.le_trans CK5.out.high (by simp)
      have O5 := hid o5
      have X1a : Hid ((w5.alloc (.cells #[v5] 30)).cell? ⟨w.heap.size, 1, none⟩ = some (.slice a' rs.length c')) := Below.seen (CK5.out.later ((Below.refl _ _).alloc (Nat.le_refl _) (.cells #[v5] 30))).bel (Nat.le_refl _) X1.out
      have hlt2 : Hid (w.heap.size < w.heap.size + 2) := by show _ < _; omega
      clear o5 hb5 T2 hum
      go_wp2_with (at_builtin; refine wpList_errsG _ rfl (.tmp 41) (.tmp 46) rfl (w.heap.size + 2) _ (us.map Prod.fst) rfl OW.out w5.heap.size 1 [v5] rfl A1.out A2.out A3.out hBs ?_; intro ga gc y w6 hy ow hg bw; have z1 := (bw.out.cell (p := ⟨w.heap.size, 1, none⟩) hlt2.out).trans X1a.out)
      have K6 : Hid (∃ us', Ckd Ad w0 (w.heap.size + 1) (w.heap.size + 2) (cs.length + 0) (seenTo (cs.map Cmp.s ++ (rs.take 0).map Rsc.s)) (.slice ga y.length gc) us' w6 ∧ 0 < us'.length ∧ us'.length ≤ 2 + 3 * cs.length + 0 ∧ flat us' = manyL bComps 16 cs.length ++ compL cs cs.length ++ (manyL bRes 8 rs.length ++ resL cs rs 0)) := by
        have e := CK5.out.app (vs := [(v5, manyL bRes 8 rs.length)]) hu0 (by intro u hu; simp at hu; subst hu; exact O5.out) (by rw [hy.out]; rfl) ow.out hg.out
        refine ⟨_, by simpa using e, by simp, by simp; omega, ?_⟩
        rw [flat_app, HF.out]
        simp [flat, resL]
      clear z1 CK5 CK OW A1 A2 A3 hBs O5 hy ow hg bw x1 HF X1a s5
      go_loopw [4, 7, 8, 51] (fun ev _ _ i wr => ∃ k : Nat, k ≤ rs.length ∧ i = .int .i64 (k : Int) ∧ ∃ us, Hid (Ckd Ad w0 (w.heap.size + 1) (w.heap.size + 2) (cs.length + k) (seenTo (cs.map Cmp.s ++ (rs.take k).map Rsc.s)) ev us wr ∧ 0 < us.length ∧ us.length ≤ 2 + 3 * cs.length + k ∧ flat us = manyL bComps 16 cs.length ++ compL cs cs.length ++ (manyL bRes 8 rs.length ++ resL cs rs k))) (fun _ _ _ i _ => rs.length - (intOf i).toNat)
      case atStart =>
        obtain ⟨us', hus'⟩ := K6.out
        exact ⟨0, Nat.zero_le _, rfl, us', hus'⟩
      case round =>
        clear hul hu0
        obtain ⟨k, hk, rfl, us, HK⟩ := hrel
        obtain ⟨ck, hu0, hul, hfl⟩ := HK.out
        have CK := hid ck
        have HF := hid hfl
        by_cases hlt : k < rs.length
        · have hki : (k : Int) < (rs.length : Int) := by omega
          obtain ⟨x, hx⟩ := at_lt rs k hlt
          obtain ⟨b, o, rfl, hc⟩ : ∃ b o, a' = some ⟨b, o, none⟩ ∧ ∀ (j : Nat) (x : Rsc), rs[j]? = some x → w.cell? ⟨b, o + j * 2, none⟩ = some (.string x.s) ∧ w.cell? ⟨b, o + j * 2 + 1, none⟩ = some (.int .i64 x.n) := by
            rcases HL'.out with h | h
            · rw [h] at hlt; simp at hlt
            · exact h
          have BW := hid (B0.out.trans (ck.bel.mono B0.out.size))
          obtain ⟨c0, c1⟩ := hc k x hx
          have c0 := Below.seen BW.out (Nat.le_refl _) c0
          have c1 := Below.seen BW.out (Nat.le_refl _) c1
          have CN := hid (resL_next (cs := cs) hx)
          have SN := hid (seenR_next (cs := cs) hx)
          obtain ⟨acc, HA⟩ : ∃ acc, Hid (acc = seenTo (cs.map Cmp.s ++ (rs.take k).map Rsc.s)) := ⟨_, rfl⟩
          rw [← HA.out] at CK CN SN
          have BA : Hid (Below wr.heap.size wr (wr.alloc (.cells #[.string x.s, .int .i64 x.n] 65))) := (Below.refl _ _).alloc (Nat.le_refl _) _
          have CA := hid (CK.out.later BA.out)
          have TA := hid (take_any Ad _ (E0.out.later CA.out.bel) (w.heap.size + 1) _ _ CA.out.map (by omega) x.s)
          clear hc hx ck hfl HK HA
          go_wp2_with fail
          refine TA.out.mono ?_
          rintro e w7 ⟨rfl, hm7, hg7⟩
          have C7 := hid (CA.out.took hm7 hg7)
          have WA := hid (way3 Ad w7 ⟨#[114, 101, 115, 111, 117, 114, 99, 101, 115]⟩ ⟨#[110, 97, 109, 101]⟩ k (by omega) _ (nErr_len acc x.s))
          clear hm7 hg7 TA CA
          go_wp2_with fail
          refine WA.out.mono ?_
          rintro e w8 ⟨v8, rfl, o8, hb8⟩
          have s8 := o8.shape
          unfold Value.cells at s8
          have C8 := hid (C7.out.later hb8)
          obtain ⟨pa, pc, hpv⟩ := own_slice C8.out.row
          have hum : (us.map Prod.fst).length = us.length := List.length_map _
          have OW : Hid ((w8.alloc (.cells #[v8] 30)).ownsRow (w.heap.size + 2) 30 1 u4 (us.map Prod.fst).length (us.map Prod.fst)) := by rw [hum]; exact C8.out.row.alloc _
          have A1 := hid (app_cell w8 v8)
          have A2 : Hid (∀ z ∈ [v8], z.oneCell' = true) := by intro z hz; simp at hz; rw [hz]; exact o8.cell.1
          have A3 : Hid ((us.map Prod.fst).length + [v8].length ≤ 5000) := by show _ ≤ _; rw [hum]; simp; omega
          have hBs : w.heap.size + 2 ≤ (w8.alloc (.cells #[v8] 30)).heap.size := Nat.le_trans C8.out.high (by simp)
          have O8 := hid o8
          clear o8 hb8 WA hum hpv C7
          go_wp2_with (at_builtin; refine wpList_errsG _ rfl (.tmp 56) (.tmp 63) rfl (w.heap.size + 2) _ (us.map Prod.fst) rfl OW.out w8.heap.size 1 [v8] rfl A1.out A2.out A3.out hBs ?_; intro ga2 gc2 y2 w9 hy2 ow2 hg2 bw2)
          have NX : Hid (∃ us', Ckd Ad w0 (w.heap.size + 1) (w.heap.size + 2) (cs.length + (k + 1)) (seenTo (cs.map Cmp.s ++ (rs.take (k + 1)).map Rsc.s)) (.slice ga2 y2.length gc2) us' w9 ∧ 0 < us'.length ∧ us'.length ≤ 2 + 3 * cs.length + (k + 1) ∧ flat us' = manyL bComps 16 cs.length ++ compL cs cs.length ++ (manyL bRes 8 rs.length ++ resL cs rs (k + 1))) := by
            have e := C8.out.app (vs := [(v8, at3 bRes k bName (nErr acc x.s))]) hu0 (by intro u hu; simp at hu; subst hu; exact O8.out) (by rw [hy2.out]; rfl) ow2.out hg2.out
            rw [← SN.out] at e
            refine ⟨_, e, by simp, by simp; omega, ?_⟩
            rw [flat_app, HF.out, CN.out]
            simp [flat]
          go_roundw
          case rel =>
            obtain ⟨us', hus'⟩ := NX.out
            exact ⟨k + 1, by omega, by go_num, us', hus'⟩
          case measure => simp [intOf]; omega
        · have hki : ¬ ((k : Int) < (rs.length : Int)) := by omega
          obtain rfl : k = rs.length := by omega
          have AL := hid (all_top Ad 3 u4 us wr (own_errs (by have := CK.out.row; rw [show us.length = (us.map Prod.fst).length by simp] at this; exact this)) (fun u hu => (CK.out.one u hu).top) (by omega) (by
            show (flat us).length ≤ 1000
            rw [HF.out]
            have h1 := compL_len cs cs.length
            have h2 := resL_len cs rs rs.length
            have h3 : (manyL bComps 16 cs.length).length ≤ 1 := by unfold manyL; split <;> simp
            have h4 : (manyL bRes 8 rs.length).length ≤ 1 := by unfold manyL; split <;> simp
            simp only [List.length_append]
            omega))
          have R : Hid ((us.map Prod.snd).flatten = checkL cs rs) := by show flat us = _; rw [HF.out]; rfl
          rw [R.out] at AL
          have BW := hid (B0.out.trans (CK.out.bel.mono B0.out.size))
          obtain ⟨pa, pc, rfl⟩ := own_slice CK.out.row
          clear ck hfl HK R
          go_wp2_with fail
          refine AL.out.mono ?_
          rintro e w9 ⟨v9, rfl, t9, hb9⟩
          have T9 := hid t9
          have B9 := hid (BW.out.trans (hb9.mono BW.out.size))
          clear t9 hb9 AL
          go_wp2_with fail
          go_ret
          exact ⟨_, rfl, T9.out, B9.out⟩
end Go.Proofs.YtbfjijiakkopeaaDoor.Sc
