/- Texts in one. -/
import Derived.Deep.RegionHeld3
import Derived.Deep.AppendLies
import Derived.Deep.DrawnRows
import Derived.Deep.Cut
import Derived.Test.YtagjmggiaffihaaGreatDoorMal
namespace Go.Proofs.YtagjmggiaffihaaGreatDoor.Sc
open Go.RowKit Go.Shelf
attribute [local go_sem ↓] Go.wp_at_zero Go.wp_at_succ
theorem resL_next {cs : List Cmp} {rs : List Rsc} {k : Nat} {r : Rsc} (h : rs[k]? = some r) : resL cs rs (k + 1) = resL cs rs k ++ at3 bRes k bName (nErr (seenTo (cs.map Cmp.s ++ (rs.take k).map Rsc.s)) r.s) := by simp [resL, h]
theorem seenR_next {cs : List Cmp} {rs : List Rsc} {k : Nat} {r : Rsc} (h : rs[k]? = some r) : seenTo (cs.map Cmp.s ++ (rs.take (k + 1)).map Rsc.s) = seenB (seenTo (cs.map Cmp.s ++ (rs.take k).map Rsc.s)) r.s := by
  rw [take_next h, List.map_append, List.map_cons, List.map_nil, ← List.append_assoc, seenTo_snoc]
/-- append of a component's three errors, at a step of a region that draws its order. -/
theorem step_errs3 {ops : Array Oper} {o : Oper} {a : Act} {K : Act → World → Prop} {Q : Exit → Act → World → Prop} {E : Prop} (hgd : o.guard = none) (s x : Operand)
    (ho : o.op = .call { callee := .builtin .append, args := #[s, x], argTypes := #[177, 177] })
    {Ad : Nat → Addr} {w wc : World} {mb B n g : Nat} {acc : List ByteArray} {ev : Value} {us vs : List (Value × Leaves)} {y : Cmp} (hC : C6 Ad w mb B n acc ev us g y vs wc) {v1 v2 v3 : Value} (hvs : vs.map Prod.fst = [v1, v2, v3]) (h0 : 0 < us.length) (hul : us.length ≤ 1000)
    (hs : a.eval s = ev) (hx : a.eval x = .slice (some ⟨wc.heap.size, 0, none⟩) 3 3)
    (h : ∀ g' cap w2, C6 Ad w mb B n acc (.slice (some ⟨g', 0, none⟩) (us.length + 3) cap) (us ++ vs) g y [] w2 → K (a.put o.dst (.slice (some ⟨g', 0, none⟩) (us.length + 3) cap)) w2) :
    if Region.wanted o (yielded ops a.tmps) = true then Oper.wp Tryz.prog o a (wc.alloc (.cells #[v1, v2, v3] 31)) K Q else E := by
  obtain ⟨i0, hi, hz0, hz1, hz2⟩ := info_parts Tryz.infoErr
  have hone : ∀ u ∈ [v1, v2, v3], u.oneCell' = true := by
    intro u hu
    rw [← hvs] at hu
    obtain ⟨p, hp, rfl⟩ := List.mem_map.1 hu
    exact (hC.one p hp).cell.1
  have hown : (wc.alloc (.cells #[v1, v2, v3] 31)).ownsRow B 31 1 ev us.length (us.map Prod.fst) := hC.ck.row.alloc _
  have hvl : vs.length = 3 := by have := congrArg List.length hvs; simpa using this
  refine step_append_lies _ hgd s x 177 ho B 31 i0 .nilIface 1 16 Tryz.underlying177 hi hz0 hz1 hz2 rfl (by decide) ev us.length (us.map Prod.fst) hs hown ⟨wc.heap.size, 0, none⟩ 3 3 [v1, v2, v3] hx rfl (fun j u hu => by rw [add_at]; exact row_cell wc [v1, v2, v3] 31 j u hu) hone (by decide) (by unfold maxLen; omega) (by omega) (Nat.le_trans hC.ck.high (by simp)) (wc.alloc (.cells #[v1, v2, v3] 31)).heap.size rfl ?_
  intro g' cap w2 ow hg _ _
  have e : us.length + 3 = (us.map Prod.fst ++ [v1, v2, v3]).length := by simp
  refine h g' cap w2 ?_
  have hC1 := hC.later (show Below wc.heap.size wc (wc.alloc (.cells #[v1, v2, v3] 31)) from (Below.refl _ _).alloc (Nat.le_refl _) _)
  have hne : some g ≠ ev.ownBlock := fun hh => hC1.ck.nt g hh.symm y.s hC1.c0
  have S := fun {j : Nat} {u : Value} (h : (wc.alloc (.cells #[v1, v2, v3] 31)).cell? ⟨g, j, none⟩ = some u) => hg.cell (a := ⟨g, j, none⟩) h hne
  rw [e] at ow ⊢
  exact ⟨hC.ck.app h0 hC.one (by rw [hvs]) ow hg, S hC1.c0, S hC1.c1, S hC1.c2, S hC1.c3, S hC1.c4, S hC1.c5, S hC1.c6, by simp⟩
set_option maxHeartbeats 4000000 in
set_option maxRecDepth 100000 in
theorem check_any (Ad : Nat → Addr) (w : World) (va vb : Value) (cs : List Cmp) (rs : List Rsc) (hE : Env8 w Ad) (hC : CmpRow w va cs) (hQ : RscRow w vb rs) (hsC : SmallC cs) (hsQ : SmallQ rs) :
    Calls Tryz.prog 51 #[.agg #[va, vb]] w fun e w' => ∃ v', e = .returned v' ∧ Top Ad w'.heap.size w' 3 v' (checkL cs rs) ∧ Below w.heap.size w w' := by
  have hmm := @run_makeMap Tryz.prog
  obtain ⟨a, c, rfl, hcap, hlay⟩ := hC
  obtain ⟨a', c', rfl, hcap', hlay'⟩ := hQ
  have HL := hid hlay
  have HL' := hid hlay'
  have h40 : cs.length ≤ 40 := hsC.1
  have h40' : rs.length ≤ 40 := hsQ.1
  have h40i : (cs.length : Int) ≤ 40 := by omega
  have h40i' : (rs.length : Int) ≤ 40 := by omega
  have HSC := hid hsC
  have HSQ := hid hsQ
  have HE := hid hE
  clear hE hsC hsQ hlay hlay'
  go_enter Tryz.func51, Tryz.ntmps51
  go_wp2_with fail
  obtain ⟨w0, hw0⟩ : ∃ w0, w0 = w.alloc (.cells #[.slice a cs.length c, .slice a' rs.length c'] 25) := ⟨_, rfl⟩
  have hsz : Hid (w0.heap.size = w.heap.size + 1) := by rw [hw0]; simp [Hid]
  have B0 : Hid (Below w.heap.size w w0) := by rw [hw0]; exact (Below.refl _ _).alloc (Nat.le_refl _) _
  obtain ⟨x0, x1⟩ := cell_new2 w (.slice a cs.length c) (.slice a' rs.length c') 25
  rw [← hw0] at x0 x1 ⊢
  have X0 := hid x0
  have X1 := hid x1
  have MM : Hid (MapN (w0.alloc (.map #[] 0)) (w.heap.size + 1) 0 []) := by rw [← hsz.out]; exact World.ownsMap_made w0 Tryz.prog 9 _
  have BM : Hid (Below w0.heap.size w0 (w0.alloc (.map #[] 0))) := (Below.refl _ _).alloc (Nat.le_refl _) _
  have hszM : Hid ((w0.alloc (.map #[] 0)).heap.size = w.heap.size + 2) := by have := hsz.out; simp [Hid, this]
  have E0 := hid (HE.out.later B0.out)
  have T1 := hid (toomany_any Ad (w0.alloc (.map #[] 0)) (E0.out.later BM.out) ⟨#[99, 111, 109, 112, 111, 110, 101, 110, 116, 115]⟩ (cs.length : Int) 16)
  clear hw0 x0 x1 hmm
  refine T1.out.mono ?_
  rintro e w2 ⟨v2, rfl, o2, hb2⟩
  obtain ⟨hc2, -⟩ := (show v2.cells = #[v2] ∧ v2.oneCell' = true from by
    rcases o2 with ⟨rfl, -⟩ | ⟨p, -, h⟩
    · exact ⟨rfl, rfl⟩
    · obtain ⟨t, q, rfl, -⟩ := h.1.shape
      exact ⟨rfl, rfl⟩)
  unfold Value.cells at hc2
  have K3 : Hid (Ckd Ad w0 (w.heap.size + 1) (w.heap.size + 2) 0 [] (.slice (some ⟨w2.heap.size, 0, none⟩) 1 1) [(v2, manyL bComps 16 cs.length)] (w2.alloc (.cells #[v2] 31))) := by
    have b3 : Below w2.heap.size w2 (w2.alloc (.cells #[v2] 31)) := (Below.refl _ _).alloc (Nat.le_refl _) _
    have hs := hszM.out
    have hs2 := hb2.size
    have hs0 := hsz.out
    have b13 := hb2.trans (b3.mono hb2.size)
    refine ⟨MM.out.later b13, ?_, ?_, ?_, BM.out.trans (b13.mono BM.out.size), ⟨by omega, by omega⟩, ?_⟩
    · exact World.ownsRow_lit (base := w.heap.size + 2) (e := 31) (size := 1) w2 #[v2] 1 (by omega) (by unfold maxLen; omega) (by simp)
    · intro g hg s hs
      obtain rfl : w2.heap.size = g := by simpa [Value.ownBlock] using hg
      rw [new_cell w2 v2 31] at hs
      exact o2.cell.2 s (by simpa using hs)
    · intro u hu
      simp at hu
      subst hu
      exact o2.move b3 b3.size
    · simp; omega
  have B12 := hid (BM.out.trans (hb2.mono BM.out.size))
  have y0 := Below.seen B12.out (Nat.le_refl _) X0.out
  have y1 := Below.seen B12.out (Nat.le_refl _) X1.out
  have hl2 : w.heap.size < w2.heap.size := World.block_lt_of_cell? w2 _ y0
  have hn2 : ¬ (w.heap.size = w2.heap.size) := by omega
  clear o2 hb2 T1 MM BM
  go_wp2_with fail
  go_loopw [4, 5, 6, 18] (fun ev _ _ i wr => ∃ k : Nat, k ≤ cs.length ∧ i = .int .i64 (k : Int) ∧ ∃ us, Hid (Ckd Ad w0 (w.heap.size + 1) (w.heap.size + 2) k (seenTo ((cs.take k).map Cmp.s)) ev us wr ∧ 0 < us.length ∧ us.length ≤ 1 + 3 * k ∧ flat us = manyL bComps 16 cs.length ++ compL cs k)) (fun _ _ _ i _ => cs.length - (intOf i).toNat)
  case atStart => exact ⟨0, Nat.zero_le _, rfl, _, K3.out, by simp, by simp, by simp [flat, compL]⟩
  case round =>
    obtain ⟨k, hk, rfl, us, HK⟩ := hrel
    obtain ⟨ck, hu0, hul, hfl⟩ := HK.out
    have CK := hid ck
    have HF := hid hfl
    by_cases hlt : k < cs.length
    · have hki : (k : Int) < (cs.length : Int) := by omega
      obtain ⟨x, hx⟩ := at_lt cs k hlt
      obtain ⟨b, o, rfl, hc⟩ : ∃ b o, a = some ⟨b, o, none⟩ ∧ ∀ (j : Nat) (x : Cmp), cs[j]? = some x → w.cell? ⟨b, o + j * 7, none⟩ = some (.string x.s) ∧ w.cell? ⟨b, o + j * 7 + 1, none⟩ = some (.int .i64 x.wd) ∧ w.cell? ⟨b, o + j * 7 + 2, none⟩ = some (.bool x.rb) ∧ w.cell? ⟨b, o + j * 7 + 3, none⟩ = some (.int .i64 x.d0) ∧ w.cell? ⟨b, o + j * 7 + 4, none⟩ = some (.int .i64 x.d1) ∧ w.cell? ⟨b, o + j * 7 + 5, none⟩ = some (.int .i64 x.d2) ∧ w.cell? ⟨b, o + j * 7 + 6, none⟩ = some (.int .i64 x.d3) := by
        rcases HL.out with h | h
        · rw [h] at hlt; simp at hlt
        · exact h
      have BW := hid (B0.out.trans (ck.bel.mono B0.out.size))
      obtain ⟨c0, c1, c2, c3, c4, c5, c6⟩ := hc k x hx
      have S := fun {p : Addr} {u : Value} (h : w.cell? p = some u) => Below.seen BW.out (Nat.le_refl _) h
      have c0 := S c0
      have c1 := S c1
      have c2 := S c2
      have c3 := S c3
      have c4 := S c4
      have c5 := S c5
      have c6 := S c6
      have CN := hid (compL_next hx)
      have SN := hid (seen_next hx)
      have hxs : x.s.size ≤ 100 := HSC.out.2 x (List.mem_of_getElem? hx)
      obtain ⟨acc, HA⟩ : ∃ acc, Hid (acc = seenTo ((cs.take k).map Cmp.s)) := ⟨_, rfl⟩
      rw [← HA.out] at CK CN SN
      clear S hc hx ck hfl HK HA
      have K6 : Hid (C6 Ad w0 (w.heap.size + 1) (w.heap.size + 2) k acc u4 us wr.heap.size x [] (wr.alloc (.cells #[.string x.s, .int .i64 x.wd, .bool x.rb, .int .i64 x.d0, .int .i64 x.d1, .int .i64 x.d2, .int .i64 x.d3] 99))) := by
        have b : Below wr.heap.size wr (wr.alloc (.cells #[.string x.s, .int .i64 x.wd, .bool x.rb, .int .i64 x.d0, .int .i64 x.d1, .int .i64 x.d2, .int .i64 x.d3] 99)) := (Below.refl _ _).alloc (Nat.le_refl _) _
        have R := fun (j : Nat) (u : Value) (h : [Value.string x.s, .int .i64 x.wd, .bool x.rb, .int .i64 x.d0, .int .i64 x.d1, .int .i64 x.d2, .int .i64 x.d3][j]? = some u) => row_cell wr _ 99 j u h
        exact ⟨CK.out.later b, R 0 _ rfl, R 1 _ rfl, R 2 _ rfl, R 3 _ rfl, R 4 _ rfl, R 5 _ rfl, R 6 _ rfl, by simp⟩
      go_wp2_with fail
      generalize hwq : wr.alloc (.cells #[.string x.s, .int .i64 x.wd, .bool x.rb, .int .i64 x.d0, .int .i64 x.d1, .int .i64 x.d2, .int .i64 x.d3] 99) = wq at *
      have k6 := K6.out
      clear hwq c0 c1 c2 c3 c4 c5 c6
      obtain ⟨c0, c1, c2, c3, c4, c5, c6⟩ := k6.cells
      have k6d := k6.drew
      generalize wr.heap.size = g6 at *
      have h1000 : us.length ≤ 1000 := by omega
      go_region_held3 (fun W => W.cell? ⟨g6, 0, none⟩ = some (.string x.s) ∧ W.cell? ⟨g6, 1, none⟩ = some (.int .i64 x.wd) ∧ W.cell? ⟨g6, 2, none⟩ = some (.bool x.rb) ∧ W.cell? ⟨g6, 3, none⟩ = some (.int .i64 x.d0) ∧ W.cell? ⟨g6, 4, none⟩ = some (.int .i64 x.d1) ∧ W.cell? ⟨g6, 5, none⟩ = some (.int .i64 x.d2) ∧ W.cell? ⟨g6, 6, none⟩ = some (.int .i64 x.d3)) (first | go_keep | (exact C6.cells (by assumption))) (first
        | (go_at_call 102; refine (take_any Ad _ (C6.env (by assumption) E0.out) (w.heap.size + 1) k _ (C6.ck (by assumption)).map (by omega) x.s (by omega)).mono ?_; rintro e w7 ⟨rfl, hm7, hg7⟩; have h7 := C6.took (by assumption) hm7 hg7)
        | (go_at_call 101; refine (way3 Ad _ _ _ k (by omega) _ (by first | exact nErr_len _ _ | exact wErr_len _ | exact dErr_len _)).mono ?_; rintro e w8 ⟨v8, rfl, o8, hb8⟩; have h8 := C6.push (by assumption) hb8 o8; have s8 := o8.shape; unfold Value.cells at s8)
        | (go_at_call 103; refine (width7 Ad _ (C6.env (by assumption) E0.out) x).mono ?_; rintro e w9 ⟨rfl, hb9⟩; have h9 := C6.later (by assumption) hb9)
        | (go_at_call 104; refine (default7 Ad _ (C6.env (by assumption) E0.out) x).mono ?_; rintro e w9 ⟨rfl, hb9⟩; have h9 := C6.later (by assumption) hb9)
        | (refine step_errs3 (by rfl) _ _ (by rfl) (by assumption) (by rfl) hu0 h1000 (by rfl) (by rfl) ?_; intro g9 cap9 w10 hk10))
      have NX : Hid (∃ us', Ckd Ad w0 (w.heap.size + 1) (w.heap.size + 2) (k + 1) (seenTo ((cs.take (k + 1)).map Cmp.s)) (.slice (some ⟨g9, 0, none⟩) (us.length + 3) cap9) us' w10 ∧ 0 < us'.length ∧ us'.length ≤ 1 + 3 * (k + 1) ∧ flat us' = manyL bComps 16 cs.length ++ compL cs (k + 1)) := by
        have e := hk10.ck
        rw [← SN.out] at e
        refine ⟨_, e, by simp, by simp; omega, ?_⟩
        rw [flat_app, HF.out, CN.out, List.append_assoc]
        congr 2
        simp only [flat, leafC, List.nil_append, List.cons_append, List.map_cons, List.map_nil, List.flatten_cons, List.flatten_nil, List.append_nil]
        rfl
      clear hk10 h9 h8 h7 k6d k6 c0 c1 c2 c3 c4 c5 c6 o8 hb8 hm7 hg7 hb9
      go_wp2_with fail
      go_roundw
      case rel =>
        obtain ⟨us', hus'⟩ := NX.out
        exact ⟨k + 1, by omega, by go_num, us', hus'⟩
      case measure => simp [intOf]; omega
    · have hki : ¬ ((k : Int) < (cs.length : Int)) := by omega
      obtain rfl : k = cs.length := by omega
      rw [List.take_of_length_le (Nat.le_refl _)] at CK
      have x1 := Below.seen CK.out.bel (Nat.le_refl _) X1.out
      have T2 := hid (toomany_any Ad wr (E0.out.later CK.out.bel) ⟨#[114, 101, 115, 111, 117, 114, 99, 101, 115]⟩ (rs.length : Int) 8)
      obtain ⟨pa, pc, rfl⟩ := own_slice CK.out.row
      clear ck hfl HK
      go_wp2_with fail
      refine T2.out.mono ?_
      rintro e w5 ⟨v5, rfl, o5, hb5⟩
      have s5 := o5.shape
      unfold Value.cells at s5
      have CK5 := hid (CK.out.later hb5)
      have hum : (us.map Prod.fst).length = us.length := List.length_map _
      have OW : Hid ((w5.alloc (.cells #[v5] 31)).ownsRow (w.heap.size + 2) 31 1 (.slice pa us.length pc) (us.map Prod.fst).length (us.map Prod.fst)) := by rw [hum]; exact CK5.out.row.alloc _
      have A1 := hid (app_cell w5 v5)
      have A2 : Hid (∀ z ∈ [v5], z.oneCell' = true) := by intro z hz; simp at hz; rw [hz]; exact o5.cell.1
      have A3 : Hid ((us.map Prod.fst).length + [v5].length ≤ 5000) := by show _ ≤ _; rw [hum]; simp; omega
      have hBs : w.heap.size + 2 ≤ (w5.alloc (.cells #[v5] 31)).heap.size := Nat.le_trans CK5.out.high (by simp)
      have O5 := hid o5
      have X1a : Hid ((w5.alloc (.cells #[v5] 31)).cell? ⟨w.heap.size, 1, none⟩ = some (.slice a' rs.length c')) := Below.seen (CK5.out.later ((Below.refl _ _).alloc (Nat.le_refl _) (.cells #[v5] 31))).bel (Nat.le_refl _) X1.out
      have hlt2 : Hid (w.heap.size < w.heap.size + 2) := by show _ < _; omega
      clear o5 hb5 T2 hum
      go_wp2_with (at_builtin; refine wpList_errsG _ rfl (.tmp 41) (.tmp 46) rfl (w.heap.size + 2) _ (us.map Prod.fst) rfl OW.out w5.heap.size 1 [v5] rfl A1.out A2.out A3.out hBs ?_; intro ga gc y w6 hy ow hg bw; have z1 := (bw.out.cell (p := ⟨w.heap.size, 1, none⟩) hlt2.out).trans X1a.out)
      have K6 : Hid (∃ us', Ckd Ad w0 (w.heap.size + 1) (w.heap.size + 2) (cs.length + 0) (seenTo (cs.map Cmp.s ++ (rs.take 0).map Rsc.s)) (.slice ga y.length gc) us' w6 ∧ 0 < us'.length ∧ us'.length ≤ 2 + 3 * cs.length + 0 ∧ flat us' = manyL bComps 16 cs.length ++ compL cs cs.length ++ (manyL bRes 8 rs.length ++ resL cs rs 0)) := by
        have e := CK5.out.app (vs := [(v5, manyL bRes 8 rs.length)]) hu0 (by intro u hu; simp at hu; subst hu; exact O5.out) (by rw [hy.out]; rfl) ow.out hg.out
        refine ⟨_, by simpa using e, by simp, by simp; omega, ?_⟩
        rw [flat_app, HF.out]
        simp [flat, resL]
      clear z1 CK5 CK OW A1 A2 A3 hBs O5 hy ow hg bw x1 HF X1a s5
      go_loopw [4, 7, 8, 51] (fun ev _ _ i wr => ∃ k : Nat, k ≤ rs.length ∧ i = .int .i64 (k : Int) ∧ ∃ us, Hid (Ckd Ad w0 (w.heap.size + 1) (w.heap.size + 2) (cs.length + k) (seenTo (cs.map Cmp.s ++ (rs.take k).map Rsc.s)) ev us wr ∧ 0 < us.length ∧ us.length ≤ 2 + 3 * cs.length + k ∧ flat us = manyL bComps 16 cs.length ++ compL cs cs.length ++ (manyL bRes 8 rs.length ++ resL cs rs k))) (fun _ _ _ i _ => rs.length - (intOf i).toNat)
      case atStart =>
        obtain ⟨us', hus'⟩ := K6.out
        exact ⟨0, Nat.zero_le _, rfl, us', hus'⟩
      case round =>
        clear hul hu0
        obtain ⟨k, hk, rfl, us, HK⟩ := hrel
        obtain ⟨ck, hu0, hul, hfl⟩ := HK.out
        have CK := hid ck
        have HF := hid hfl
        by_cases hlt : k < rs.length
        · have hki : (k : Int) < (rs.length : Int) := by omega
          obtain ⟨x, hx⟩ := at_lt rs k hlt
          obtain ⟨b, o, rfl, hc⟩ : ∃ b o, a' = some ⟨b, o, none⟩ ∧ ∀ (j : Nat) (x : Rsc), rs[j]? = some x → w.cell? ⟨b, o + j * 2, none⟩ = some (.string x.s) ∧ w.cell? ⟨b, o + j * 2 + 1, none⟩ = some (.int .i64 x.n) := by
            rcases HL'.out with h | h
            · rw [h] at hlt; simp at hlt
            · exact h
          have BW := hid (B0.out.trans (ck.bel.mono B0.out.size))
          obtain ⟨c0, c1⟩ := hc k x hx
          have c0 := Below.seen BW.out (Nat.le_refl _) c0
          have c1 := Below.seen BW.out (Nat.le_refl _) c1
          have CN := hid (resL_next (cs := cs) hx)
          have SN := hid (seenR_next (cs := cs) hx)
          have hxs : x.s.size ≤ 100 := HSQ.out.2 x (List.mem_of_getElem? hx)
          obtain ⟨acc, HA⟩ : ∃ acc, Hid (acc = seenTo (cs.map Cmp.s ++ (rs.take k).map Rsc.s)) := ⟨_, rfl⟩
          rw [← HA.out] at CK CN SN
          have BA : Hid (Below wr.heap.size wr (wr.alloc (.cells #[.string x.s, .int .i64 x.n] 101))) := (Below.refl _ _).alloc (Nat.le_refl _) _
          have CA := hid (CK.out.later BA.out)
          have TA := hid (take_any Ad _ (E0.out.later CA.out.bel) (w.heap.size + 1) _ _ CA.out.map (by omega) x.s (by omega))
          clear hc hx ck hfl HK HA
          go_wp2_with fail
          refine TA.out.mono ?_
          rintro e w7 ⟨rfl, hm7, hg7⟩
          have C7 := hid (CA.out.took hm7 hg7)
          have WA := hid (way3 Ad w7 ⟨#[114, 101, 115, 111, 117, 114, 99, 101, 115]⟩ ⟨#[110, 97, 109, 101]⟩ k (by omega) _ (nErr_len acc x.s))
          clear hm7 hg7 TA CA
          go_wp2_with fail
          refine WA.out.mono ?_
          rintro e w8 ⟨v8, rfl, o8, hb8⟩
          have s8 := o8.shape
          unfold Value.cells at s8
          have C8 := hid (C7.out.later hb8)
          obtain ⟨pa, pc, hpv⟩ := own_slice C8.out.row
          have hum : (us.map Prod.fst).length = us.length := List.length_map _
          have OW : Hid ((w8.alloc (.cells #[v8] 31)).ownsRow (w.heap.size + 2) 31 1 u4 (us.map Prod.fst).length (us.map Prod.fst)) := by rw [hum]; exact C8.out.row.alloc _
          have A1 := hid (app_cell w8 v8)
          have A2 : Hid (∀ z ∈ [v8], z.oneCell' = true) := by intro z hz; simp at hz; rw [hz]; exact o8.cell.1
          have A3 : Hid ((us.map Prod.fst).length + [v8].length ≤ 5000) := by show _ ≤ _; rw [hum]; simp; omega
          have hBs : w.heap.size + 2 ≤ (w8.alloc (.cells #[v8] 31)).heap.size := Nat.le_trans C8.out.high (by simp)
          have O8 := hid o8
          clear o8 hb8 WA hum hpv C7
          go_wp2_with (at_builtin; refine wpList_errsG _ rfl (.tmp 56) (.tmp 63) rfl (w.heap.size + 2) _ (us.map Prod.fst) rfl OW.out w8.heap.size 1 [v8] rfl A1.out A2.out A3.out hBs ?_; intro ga2 gc2 y2 w9 hy2 ow2 hg2 bw2)
          have NX : Hid (∃ us', Ckd Ad w0 (w.heap.size + 1) (w.heap.size + 2) (cs.length + (k + 1)) (seenTo (cs.map Cmp.s ++ (rs.take (k + 1)).map Rsc.s)) (.slice ga2 y2.length gc2) us' w9 ∧ 0 < us'.length ∧ us'.length ≤ 2 + 3 * cs.length + (k + 1) ∧ flat us' = manyL bComps 16 cs.length ++ compL cs cs.length ++ (manyL bRes 8 rs.length ++ resL cs rs (k + 1))) := by
            have e := C8.out.app (vs := [(v8, at3 bRes k bName (nErr acc x.s))]) hu0 (by intro u hu; simp at hu; subst hu; exact O8.out) (by rw [hy2.out]; rfl) ow2.out hg2.out
            rw [← SN.out] at e
            refine ⟨_, e, by simp, by simp; omega, ?_⟩
            rw [flat_app, HF.out, CN.out]
            simp [flat]
          go_roundw
          case rel =>
            obtain ⟨us', hus'⟩ := NX.out
            exact ⟨k + 1, by omega, by go_num, us', hus'⟩
          case measure => simp [intOf]; omega
        · have hki : ¬ ((k : Int) < (rs.length : Int)) := by omega
          obtain rfl : k = rs.length := by omega
          have AL := hid (all_top Ad 3 u4 us wr (own_errs (by have := CK.out.row; rw [show us.length = (us.map Prod.fst).length by simp] at this; exact this)) (fun u hu => (CK.out.one u hu).top) (by omega) (by
            show (flat us).length ≤ 1000
            rw [HF.out]
            have h1 := compL_len cs cs.length
            have h2 := resL_len cs rs rs.length
            have h3 : (manyL bComps 16 cs.length).length ≤ 1 := by unfold manyL; split <;> simp
            have h4 : (manyL bRes 8 rs.length).length ≤ 1 := by unfold manyL; split <;> simp
            simp only [List.length_append]
            omega))
          have R : Hid ((us.map Prod.snd).flatten = checkL cs rs) := by show flat us = _; rw [HF.out]; rfl
          rw [R.out] at AL
          have BW := hid (B0.out.trans (CK.out.bel.mono B0.out.size))
          obtain ⟨pa, pc, rfl⟩ := own_slice CK.out.row
          clear ck hfl HK R
          go_wp2_with fail
          refine AL.out.mono ?_
          rintro e w9 ⟨v9, rfl, t9, hb9⟩
          have T9 := hid t9
          have B9 := hid (BW.out.trans (hb9.mono BW.out.size))
          clear t9 hb9 AL
          go_wp2_with fail
          go_ret
          exact ⟨_, rfl, T9.out, B9.out⟩
end Go.Proofs.YtagjmggiaffihaaGreatDoor.Sc
namespace Go.Proofs.YtagjmggiaffihaaGreatDoor.So
open Go.RowKit Go.Shelf Go.Maps
open Go.Proofs.YtagjmggiaffihaaGreatDoor.Co (I64 I64_mid Pt Col CS)
open Go.Proofs.YtagjmggiaffihaaGreatDoor.At (St bAl cell_blk blk_seen blk_free Ints Atl)
open Go.Proofs.YtagjmggiaffihaaGreatDoor.Ro (RS Rol Ents entCells entCells_len)
open Go.Proofs.YtagjmggiaffihaaGreatDoor.Rs (SD mskP Prt okW)
theorem rol_lower {B B' : Nat} {W : World} {rb t : Nat} {r : RS} {S : Nat → Prop} (h : Rol B W rb t r S) (hB : B' ≤ B) : Rol B' W rb t r S := by
  obtain ⟨gb, mb, fv, h1, h2⟩ := h
  exact ⟨gb, mb, fv, ⟨h1.box, h1.gens, World.ownsRow.mono h1.free hB, h1.map, h1.ok, h1.small, h1.old, ⟨Nat.le_trans hB h1.low.1, Nat.le_trans hB h1.low.2.1, Nat.le_trans hB h1.low.2.2⟩, h1.apart⟩, h2⟩
/-- A store that nobody stands in. -/
def madeS (ws : List Nat) (n : Nat) : SD := { ws := ws, sets := [0], r := RS.fresh n, p := List.replicate 64 [] }
theorem al_made {ws : List Nat} {n i g : Nat} : ¬ al (madeS ws n) i g := by
  rw [al_iff]
  rintro ⟨h1, h2⟩
  obtain ⟨h3, -⟩ := List.getElem?_eq_some_iff.1 h2
  apply h1
  simp [madeS, RS.fresh] at h3 ⊢
  omega
theorem lk_made (ws : List Nat) (n : Nat) : Lk none (fun _ => none) (List.replicate n (0, 0)) (madeS ws n) :=
  ⟨by simp [madeS, RS.fresh], fun _ _ h => absurd h al_made, fun _ _ h => (by cases h), fun _ _ h => absurd h al_made⟩
theorem Sto.made {B : Nat} {w2 w3 w4 W' : World} {rb ab sb tm sv n : Nat} {S2 S3 : Nat → Prop} {ws : List Nat} {lv : Value} (hB : B ≤ w2.heap.size) (hR : Rol w2.heap.size w3 rb 0 (RS.fresh n) S2) (hA : Atl w3.heap.size w4 ab ⟨ws.length, [0]⟩ S3) (b34 : Below w3.heap.size w3 w4) (b23 : w2.heap.size ≤ w3.heap.size) (b4 : Below w4.heap.size w4 W')
    (hbox : W'.heap[sb]? = some (.cells #[lv, .pointer (some ⟨ab, 0, none⟩), .map (some tm), .pointer (some ⟨rb, 0, none⟩), .slice (some ⟨sv, 0, none⟩) n n] 115 (0, 0))) (hmap : PMap W' tm (fun _ => none)) (hseat : W'.heap[sv]? = some (.cells (entCells (List.replicate n (0, 0))).toArray 218 (0, 0)))
    (hw : Ints w4.heap.size W' lv ws) (h1 : w4.heap.size ≤ sb) (h2 : w4.heap.size ≤ tm) (h3 : w4.heap.size ≤ sv) (hok : okW ws) :
    ∃ c : CV, Sto none B W' sb c (madeS ws n) ∧ c.t = 0 ∧ ∀ k, c.f k ≠ (0, 0, 0) → w2.heap.size ≤ k := by
  classical
  obtain ⟨f, hf⟩ : ∃ f : Nat → Nat × Nat × Nat, f = fun k => if k = sb ∨ k = tm ∨ k = sv ∨ lv.ownBlock = some k then (1, 0, 0) else if S2 k then (2, 0, 0) else if S3 k then (3, 0, 0) else (0, 0, 0) := ⟨_, rfl⟩
  have l34 := b34.size
  have l4 := b4.size
  have one : ∀ k, (k = sb ∨ k = tm ∨ k = sv ∨ lv.ownBlock = some k) → w4.heap.size ≤ k := fun k hk => by
    rcases hk with rfl | rfl | rfl | hk
    · exact h1
    · exact h2
    · exact h3
    · exact (hw.lt k hk).1
  have s2 : ∀ k, S2 k → w2.heap.size ≤ k ∧ k < w3.heap.size := fun k hk => hR.lt k hk
  have s3 : ∀ k, S3 k → w3.heap.size ≤ k ∧ k < w4.heap.size := fun k hk => hA.lt k hk
  have f1 : ∀ k, f k = (1, 0, 0) ↔ k = sb ∨ k = tm ∨ k = sv ∨ lv.ownBlock = some k := fun k => by
    rw [hf]
    show (if _ then _ else _) = _ ↔ _
    split
    · exact ⟨fun _ => by assumption, fun _ => rfl⟩
    · rename_i hn
      split
      · exact ⟨fun e => by simp at e, fun e => absurd e hn⟩
      · split
        · exact ⟨fun e => by simp at e, fun e => absurd e hn⟩
        · exact ⟨fun e => by simp at e, fun e => absurd e hn⟩
  have f2 : ∀ k, f k = (2, 0, 0) ↔ S2 k := fun k => by
    rw [hf]
    show (if _ then _ else _) = _ ↔ _
    split
    · rename_i hn
      exact ⟨fun e => by simp at e, fun e => by have := one k hn; have := s2 k e; omega⟩
    · split
      · exact ⟨fun _ => by assumption, fun _ => rfl⟩
      · rename_i hn
        split
        · exact ⟨fun e => by simp at e, fun e => absurd e hn⟩
        · exact ⟨fun e => by simp at e, fun e => absurd e hn⟩
  have f3 : ∀ k, f k = (3, 0, 0) ↔ S3 k := fun k => by
    rw [hf]
    show (if _ then _ else _) = _ ↔ _
    split
    · rename_i hn
      exact ⟨fun e => by simp at e, fun e => by have := one k hn; have := s3 k e; omega⟩
    · split
      · rename_i hn
        exact ⟨fun e => by simp at e, fun e => by have := s2 k hn; have := s3 k e; omega⟩
      · split
        · exact ⟨fun _ => by assumption, fun _ => rfl⟩
        · rename_i hn
          exact ⟨fun e => by simp at e, fun e => absurd e hn⟩
  have fany : ∀ k, f k ≠ (0, 0, 0) → (k = sb ∨ k = tm ∨ k = sv ∨ lv.ownBlock = some k) ∨ S2 k ∨ S3 k := fun k hk => by
    rw [hf] at hk
    change (if _ then _ else _) ≠ _ at hk
    split at hk
    · exact .inl (by assumption)
    · split at hk
      · exact .inr (.inl (by assumption))
      · split at hk
        · exact .inr (.inr (by assumption))
        · exact absurd rfl hk
  have hlt : ∀ k, f k ≠ (0, 0, 0) → w2.heap.size ≤ k ∧ k < W'.heap.size := fun k hk => by
    have L := fun {k : Nat} {o : Obj} (h : W'.heap[k]? = some o) => (Array.getElem?_eq_some_iff.1 h).1
    rcases fany k hk with q | q | q
    · have q' := one k q
      refine ⟨by omega, ?_⟩
      rcases q with rfl | rfl | rfl | q
      · exact L hbox
      · exact hmap.lt
      · exact L hseat
      · exact (hw.lt k q).2
    · have := s2 k q; exact ⟨this.1, by omega⟩
    · have := s3 k q; exact ⟨by omega, by omega⟩
  refine ⟨⟨lv, ab, tm, rb, sv, 0, List.replicate n (0, 0), fun _ => none, fun _ => ⟨0, .nilIface, 0, fun _ => 0⟩, f⟩, ⟨?_, ?_, ?_, ?_, hseat, ?_, fun n' own h => (by cases h), f1, fun k hk => ⟨Nat.le_trans hB (hlt k hk).1, (hlt k hk).2⟩, hok, by simp [madeS], lk_made ws n, fun k n' hk => ?_, by simp⟩, rfl, fun k hk => (hlt k hk).1⟩
  · unfold CV.box
    simpa using hbox
  · exact hw.lower (by omega)
  · exact atl_congr ((hA.later b4).lower (by omega)) f3
  · exact rol_congr (rol_lower ((hR.later b34).later b4) hB) f2
  · exact hmap
  · rcases fany k (cls_ne hk).1 with q | q | q
    · exact absurd ((f1 k).2 q) (cls_ne hk).2.1
    · exact absurd ((f2 k).2 q) (cls_ne hk).2.2.1
    · exact absurd ((f3 k).2 q) (cls_ne hk).2.2.2
end Go.Proofs.YtagjmggiaffihaaGreatDoor.So
namespace Go.Proofs.YtagjmggiaffihaaGreatDoor.So
open Go.RowKit Go.Shelf Go.Maps
open Go.Proofs.YtagjmggiaffihaaGreatDoor.Ro (RS Rol Ents entCells entCells_len)
theorem infoSeat : (Tryz.prog.info? 218).map (fun i => (i.zero, i.size, i.bytes)) = some (some (.agg #[.int .i64 0, .int .i64 0]), 2, 16) := by kernel_rfl
theorem made_seats (n : Nat) : madeCells (Value.cells (.agg #[.int .i64 0, .int .i64 0])) (n * 2) = (entCells (List.replicate n (0, 0))).toArray := by
  have e0 : Value.cells (.agg #[.int .i64 0, .int .i64 0]) = #[.int .i64 0, .int .i64 0] := by simp [Value.cells]
  rw [e0]
  apply Array.toList_inj.1
  refine List.ext_getElem? fun t => ?_
  show _ = (entCells (List.replicate n (0, 0)))[t]?
  by_cases ht : t < n * 2
  · obtain ⟨p, hp⟩ : ∃ p : Nat × Nat, p = (0, 0) := ⟨_, rfl⟩
    have hr : (List.replicate n (0, 0) : List (Nat × Nat))[t / 2]? = some (0, 0) := by rw [List.getElem?_replicate, if_pos (by omega)]
    obtain ⟨e1, e2⟩ := ent_at hr
    rcases Nat.mod_two_eq_zero_or_one t with h | h
    · rw [show t / 2 * 2 = t by omega] at e1
      rw [e1]
      simp [madeCells, ht, h]
    · rw [show t / 2 * 2 + 1 = t by omega] at e2
      rw [e2]
      simp [madeCells, ht, h]
  · rw [List.getElem?_eq_none (by simp [madeCells]; omega), List.getElem?_eq_none (by rw [entCells_len]; simp; omega)]
theorem run_seats (W : World) (n : Nat) (hn : n ≤ 64) : (Instr.makeSlice 110 (.int .i64 (n : Int)) (.int .i64 (n : Int))).run Tryz.prog W = .ok (.slice (some ⟨W.heap.size, 0, none⟩) n n) (W.alloc (.cells (entCells (List.replicate n (0, 0))).toArray 218)) := by
  obtain ⟨i0, hi, hz0, hz1, hz2⟩ := info_parts infoSeat
  have h := run_makeSlice (P := Tryz.prog) W 110 218 i0 (.agg #[.int .i64 0, .int .i64 0]) Tryz.underlying110 hi hz0 .i64 .i64 (n : Int) (n : Int) (by omega) (by omega) (by rw [hz1]; simp; omega) (by rw [hz2]; omega) (by omega)
  rw [hz1, Int.toNat_natCast, made_seats] at h
  exact h
end Go.Proofs.YtagjmggiaffihaaGreatDoor.So
namespace Go.Proofs.YtagjmggiaffihaaGreatDoor.So
open Go.RowKit Go.Shelf Go.Maps
open Go.Proofs.YtagjmggiaffihaaGreatDoor.At (St bAl cell_blk blk_seen blk_free Ints Atl)
open Go.Proofs.YtagjmggiaffihaaGreatDoor.Ro (RS Rol Ents entCells entCells_len infoInt)
theorem step_wid {ops : Array Oper} {o : Oper} {a : Act} {K : Act → World → Prop} {Q : Exit → Act → World → Prop} {E : Prop} (hgd : o.guard = none) (s x : Operand)
    (ho : o.op = .call { callee := .builtin .append, args := #[s, x], argTypes := #[113, 113] }) {B sb : Nat} {wc : World} {ov : Value} {l : List Nat} {k : Nat} (hown : Ints B wc ov l) (hl : l.length ≤ 1000) (hB : B ≤ wc.heap.size)
    {cs : Array Value} (hbox : wc.heap[sb]? = some (.cells cs 115 (0, 0))) (hcs : cs[0]? = some ov) (hne : ov.ownBlock ≠ some sb)
    (hs : a.eval s = ov) (hx : a.eval x = .slice (some ⟨wc.heap.size, 0, none⟩) 1 1)
    (h : ∀ g' cap w2, Hid (Ints B w2 (.slice (some ⟨g', 0, none⟩) (l.length + 1) cap) (l ++ [k]) ∧ w2.heap[sb]? = some (.cells cs 115 (0, 0)) ∧ St (fun x => ov.ownBlock = some x) wc w2 ∧ (ov.ownBlock = some g' ∨ wc.heap.size ≤ g')) → w2.cell? ⟨sb, 0, none⟩ = some ov → w2.frozen? ⟨sb, 0, none⟩ = false → K (a.put o.dst (.slice (some ⟨g', 0, none⟩) (l.length + 1) cap)) w2) :
    if Region.wanted o (yielded ops a.tmps) = true then Oper.wp Tryz.prog o a (wc.alloc (.cells #[.int .i64 (k : Int)] 3)).drew K Q else E := by
  obtain ⟨i0, hi, hz0, hz1, hz2⟩ := info_parts infoInt
  have hb : Below wc.heap.size wc (wc.alloc (.cells #[.int .i64 (k : Int)] 3)).drew := ((Below.refl _ _).alloc (Nat.le_refl _) _).drew
  have ho2 : (wc.alloc (.cells #[.int .i64 (k : Int)] 3)).drew.ownsRow B 3 1 ov l.length (l.map At.gI) := World.ownsRow.alloc hown _
  have hz : (wc.alloc (.cells #[.int .i64 (k : Int)] 3)).drew.heap.size = wc.heap.size + 1 := by simp
  have hh := heap_alloc_new wc (.cells #[.int .i64 (k : Int)] 3)
  refine step_append_lies _ hgd s x 113 ho B 3 i0 (.int .i64 0) 1 8 Tryz.underlying113 hi hz0 hz1 hz2 rfl (by decide) ov l.length (l.map At.gI) hs ho2 ⟨wc.heap.size, 0, none⟩ 1 1 [At.gI k] hx rfl (fun j u hu => by
    rw [add_at]
    match j, hu with
    | 0, hu =>
      simp at hu
      subst hu
      exact cell_blk (W := wc.alloc _) hh rfl
    | j + 1, hu => simp at hu) (by intro u hu; simp at hu; subst hu; rfl) (by decide) (by unfold maxLen; omega) (by omega) (by omega) (wc.heap.size + 1) hz ?_
  intro g' cap w2 ow hg hat hlt
  have st : St (fun x => ov.ownBlock = some x) wc w2 := (St.of_below hb).trans (St.of_grown (S := fun x => ov.ownBlock = some x) hg fun k e => e) fun _ _ q => q
  have hb2 := st.at hbox hne
  refine h g' cap w2 ⟨?_, hb2, st, ?_⟩ (cell_blk hb2 hcs) (blk_free hb2 0)
  · show World.ownsRow _ _ _ _ _ _ _
    rw [List.map_append, List.length_append]
    exact ow
  · rcases hat with h1 | h1
    · exact .inl h1
    · exact .inr (by omega)
/-- How a new store stands while its widths come. -/
structure Nw (w4 w5 : World) (ab rb n : Nat) (l : List Nat) (lv : Value) (wr : World) : Prop where
  box : wr.heap[w4.heap.size + 2]? = some (.cells #[lv, .pointer (some ⟨ab, 0, none⟩), .map (some w4.heap.size), .pointer (some ⟨rb, 0, none⟩), .slice (some ⟨w4.heap.size + 1, 0, none⟩) n n] 115 (0, 0))
  row : Ints w5.heap.size wr lv l
  st : St (fun k => k = w4.heap.size + 2) w5 wr
theorem Nw.next {w4 w5 : World} {ab rb n : Nat} {l : List Nat} {lv lv' : Value} {wr wc w2 : World} {k : Nat} (h : Nw w4 w5 ab rb n l lv wr) (hz : w5.heap.size = w4.heap.size + 3) (hb : Below wr.heap.size wr wc) (h1 : Ints w5.heap.size w2 lv' (l ++ [k])) (h2 : w2.heap[w4.heap.size + 2]? = some (.cells #[lv, .pointer (some ⟨ab, 0, none⟩), .map (some w4.heap.size), .pointer (some ⟨rb, 0, none⟩), .slice (some ⟨w4.heap.size + 1, 0, none⟩) n n] 115 (0, 0))) (h3 : St (fun x => lv.ownBlock = some x) wc w2) : Nw w4 w5 ab rb n (l ++ [k]) lv' (w2.setCell ⟨w4.heap.size + 2, 0, none⟩ lv') := by
  have s1 := St.setCell (S := fun k => k = w4.heap.size + 2) (a := w2) (p := ⟨w4.heap.size + 2, 0, none⟩) lv' rfl
  have hlow := fun k hk => (h.row.lt k hk).1
  refine ⟨?_, own_kept h1 s1 fun k hk e => ?_, ?_⟩
  · have := heap_setCell_same w2 (w4.heap.size + 2) 0 _ _ lv' h2
    simpa using this
  · have := (h1.lt k hk).1; omega
  · refine ((h.st.trans (St.of_below (S := fun _ => False) hb) fun _ _ q => q.elim).trans h3 fun k hk e => ?_).trans s1 fun _ _ q => q
    have := hlow k e; omega
end Go.Proofs.YtagjmggiaffihaaGreatDoor.So
namespace Go.Proofs.YtagjmggiaffihaaGreatDoor.So
open Go.RowKit Go.Shelf Go.Maps
open Go.Proofs.YtagjmggiaffihaaGreatDoor.Co (I64 I64_mid Pt Col CS)
open Go.Proofs.YtagjmggiaffihaaGreatDoor.At (St bAl cell_blk blk_seen blk_free Ints Atl)
open Go.Proofs.YtagjmggiaffihaaGreatDoor.Ro (RS Rol Ents entCells entCells_len)
open Go.Proofs.YtagjmggiaffihaaGreatDoor.Rs (SD mskP Prt okW)
open Go.Proofs.YtagjmggiaffihaaGreatDoor.Sc (Cmp Rsc CmpRow RscRow SmallC SmallQ checkL)
theorem top_nil {Ad : Nat → Addr} {n d : Nat} {W : World} {v : Value} (h : Top Ad n W d v []) : v = .nilIface := by
  rcases h with ⟨h, -⟩ | ⟨p, h, -⟩ | ⟨b, vs, -, h, hs⟩
  · exact h
  · simp at h
  · have e : vs.length = 0 := by simpa using (congrArg List.length h).symm
    have := hs.two
    omega
set_option maxHeartbeats 3200000 in
set_option maxRecDepth 100000 in
theorem new_ok (Ad : Nat → Addr) (W : World) (va vb : Value) (cs : List Cmp) (rs : List Rsc) (hE : Env8 W Ad) (hC : CmpRow W va cs) (hQ : RscRow W vb rs) (hsC : SmallC cs) (hsQ : SmallQ rs) (hck : checkL cs rs = []) (ws : List Nat) (hws : cs.map (fun c => c.wd) = ws.map fun (w : Nat) => (w : Int)) (hok : okW ws) (n : Nat) (hn : n ≤ 64) :
    Calls Tryz.prog 10 #[.agg #[va, vb], .int .i64 (n : Int)] W fun e W' => ∃ sb, e = .returned (.tuple #[.pointer (some ⟨sb, 0, none⟩), .nilIface]) ∧ ∃ c, Sto none W.heap.size W' sb c (madeS ws n) ∧ c.t = 0 ∧ Below W.heap.size W W' := by
  have hmm := @run_makeMap Tryz.prog
  obtain ⟨w1, hw1⟩ : ∃ w1, w1 = W.alloc (.cells #[va, vb] 25) := ⟨_, rfl⟩
  have b1 : Below W.heap.size W w1 := by rw [hw1]; exact bAl _ _
  have r1 : w1.heap[W.heap.size]? = some (.cells #[va, vb] 25 (0, 0)) := by rw [hw1]; exact heap_alloc_new W _
  have CK := hid (Sc.check_any Ad w1 va vb cs rs (hE.later b1) (hC.later b1) (hQ.later b1) hsC hsQ)
  rw [hck] at CK
  obtain ⟨a, cc, rfl, hcap, hlay⟩ := id hC
  obtain ⟨a', c', rfl, -, -⟩ := id hQ
  have x0 : w1.cell? ⟨W.heap.size, 0, none⟩ = some (.slice a cs.length cc) := cell_blk r1 rfl
  have x1 : w1.cell? ⟨W.heap.size, 1, none⟩ = some (.slice a' rs.length c') := cell_blk r1 rfl
  have hl16 : cs.length ≤ 16 := by have := congrArg List.length hws; simp at this; have := hok.1; omega
  have hlw : cs.length = ws.length := by have := congrArg List.length hws; simpa using this
  have HLW := hid hlw
  have hli : (cs.length : Int) ≤ 16 := by omega
  clear hlw
  have HW1 := hid hw1
  have B1 := hid b1
  have R1 := hid r1
  have HC := hid hC
  have HWS := hid hws
  have HOK := hid hok
  have hni : (n : Int) ≤ 64 := by omega
  have hn0 : (0 : Int) ≤ (n : Int) := by omega
  have hn0' : ¬ ((n : Int) < 0) := by omega
  have hse := fun w => run_seats w n hn
  have RN := hid fun w => Ro.rol_new w n hn
  have AN := hid fun w => At.new_ok w cs.length hl16
  clear hw1 b1 r1 hC hQ hsC hsQ hck hws hok hE hlay
  go_enter Tryz.func10, Tryz.ntmps10
  go_upto_region 1 with fail
  rw [← HW1.out]
  go_wp2_with fail
  refine CK.out.mono ?_
  rintro e w2 ⟨v', rfl, ht, hb2⟩
  obtain rfl := top_nil ht
  have B2 := hid (B1.out.trans (hb2.mono B1.out.size))
  have R2 := hid (blk_seen hb2 (Nat.le_refl _) R1.out)
  clear ht hb2 CK x0 x1
  go_wp2_with fail
  refine (RN.out w2).mono ?_
  rintro e w3 ⟨rb, S2, rfl, hr3, hb3⟩
  have R3 := hid hr3
  have B23 := hid hb3
  have q3 := blk_seen hb3 (Nat.le_refl _) R2.out
  have x0 : w3.cell? ⟨W.heap.size, 0, none⟩ = some (.slice a cs.length cc) := cell_blk q3 rfl
  have Q3 := hid q3
  clear hr3 hb3 RN q3
  go_wp2_with fail
  refine (AN.out w3).mono ?_
  rintro e w4 ⟨ab, S3, rfl, ha4, hb4⟩
  have A4 := hid ha4
  have B34 := hid hb4
  have Q4 := hid (blk_seen hb4 (Nat.le_refl _) Q3.out)
  clear ha4 hb4 AN x0
  obtain ⟨w5, hw5⟩ : ∃ w5, w5 = ((w4.alloc (.map #[] 0)).alloc (.cells (entCells (List.replicate n (0, 0))).toArray 218)).alloc (.cells #[.slice none 0 0, .pointer (some ⟨ab, 0, none⟩), .map (some w4.heap.size), .pointer (some ⟨rb, 0, none⟩), .slice (some ⟨w4.heap.size + 1, 0, none⟩) n n] 115) := ⟨_, rfl⟩
  have ba := bAl w4 (.map #[] 0)
  have bb := bAl (w4.alloc (.map #[] 0)) (.cells (entCells (List.replicate n (0, 0))).toArray 218)
  have bc := bAl ((w4.alloc (.map #[] 0)).alloc (.cells (entCells (List.replicate n (0, 0))).toArray 218)) (.cells #[.slice none 0 0, .pointer (some ⟨ab, 0, none⟩), .map (some w4.heap.size), .pointer (some ⟨rb, 0, none⟩), .slice (some ⟨w4.heap.size + 1, 0, none⟩) n n] 115)
  have na := heap_alloc_new (w4.alloc (.map #[] 0)) (.cells (entCells (List.replicate n (0, 0))).toArray 218)
  have nb := heap_alloc_new ((w4.alloc (.map #[] 0)).alloc (.cells (entCells (List.replicate n (0, 0))).toArray 218)) (.cells #[.slice none 0 0, .pointer (some ⟨ab, 0, none⟩), .map (some w4.heap.size), .pointer (some ⟨rb, 0, none⟩), .slice (some ⟨w4.heap.size + 1, 0, none⟩) n n] 115)
  have z5 : w5.heap.size = w4.heap.size + 3 := by rw [hw5]; simp
  rw [← hw5] at bc nb
  have S5 : Hid (w5.heap[w4.heap.size + 1]? = some (.cells (entCells (List.replicate n (0, 0))).toArray 218 (0, 0))) := by
    have := blk_seen bc (Nat.le_refl _) na
    rw [World.size_alloc] at this
    exact this
  have M5 : Hid (PMap w5 w4.heap.size (fun _ => none)) := ((pmap_made w4).kept (T := fun _ => False) (St.of_below bb) id).kept (T := fun _ => False) (St.of_below bc) id
  have B45 : Hid (Below w4.heap.size w4 w5) := (ba.trans (bb.mono ba.size)).trans (bc.mono (ba.trans (bb.mono ba.size)).size)
  have N5 : Hid (Nw w4 w5 ab rb n [] (.slice none 0 0) w5) := ⟨by rw [World.size_alloc, World.size_alloc] at nb; exact nb, World.ownsRow_nil _ _ _ _, St.of_below (Below.refl _ _)⟩
  have BW5 := hid ((B2.out.trans (B23.out.mono B2.out.size)).trans ((B34.out.trans (B45.out.mono B34.out.size)).mono (B2.out.trans (B23.out.mono B2.out.size)).size))
  have Q5 := hid (blk_seen B45.out (Nat.le_refl _) Q4.out)
  have x5 : w5.cell? ⟨W.heap.size, 0, none⟩ = some (.slice a cs.length cc) := cell_blk Q5.out rfl
  have HW5 := hid hw5
  clear ba bb bc na nb hw5
  go_upto_region 11 with fail
  rw [← HW5.out]
  clear hse hmm
  go_wp2_with fail
  go_loopg [12, 47] cs.length (fun gh _ i wr => ∃ k : Nat, k ≤ cs.length ∧ gh = cs.length - k ∧ i = .int .i64 (k : Int) ∧ ∃ lv, Hid (Nw w4 w5 ab rb n (ws.take k) lv wr))
  case atStart => exact ⟨0, Nat.zero_le _, rfl, rfl, _, N5.out⟩
  case round =>
    obtain ⟨k, hk, rfl, rfl, lv, HN⟩ := hrel
    by_cases hlt : k < cs.length
    · have hki : (k : Int) < (cs.length : Int) := by omega
      obtain ⟨x, hx⟩ := at_lt cs k hlt
      obtain ⟨wk, hwk⟩ := at_lt ws k (by rw [← HLW.out]; exact hlt)
      have hxw : x.wd = (wk : Int) := by
        have := congrArg (fun l => l[k]?) HWS.out
        simpa [hx, hwk] using this
      obtain ⟨b, o, rfl, hc⟩ : ∃ b o, a = some ⟨b, o, none⟩ ∧ ∀ (j : Nat) (x : Cmp), cs[j]? = some x → W.cell? ⟨b, o + j * 7, none⟩ = some (.string x.s) ∧ W.cell? ⟨b, o + j * 7 + 1, none⟩ = some (.int .i64 x.wd) ∧ W.cell? ⟨b, o + j * 7 + 2, none⟩ = some (.bool x.rb) ∧ W.cell? ⟨b, o + j * 7 + 3, none⟩ = some (.int .i64 x.d0) ∧ W.cell? ⟨b, o + j * 7 + 4, none⟩ = some (.int .i64 x.d1) ∧ W.cell? ⟨b, o + j * 7 + 5, none⟩ = some (.int .i64 x.d2) ∧ W.cell? ⟨b, o + j * 7 + 6, none⟩ = some (.int .i64 x.d3) := by
        obtain ⟨a2, c2, e1, -, e3⟩ := HC.out
        have e2 : a = a2 := by simpa using (Value.slice.inj e1).1
        rcases e3 with h | h
        · rw [h] at hlt; simp at hlt
        · rw [e2]; exact h
      obtain ⟨c0, c1, c2, c3, c4, c5, c6⟩ := hc k x hx
      have hWw : W.heap.size ≤ w4.heap.size := Nat.le_trans (Nat.le_trans B2.out.size B23.out.size) B34.out.size
      have S := fun {p : Addr} {u : Value} (h : W.cell? p = some u) => st_cell HN.out.st (At.seen BW5.out (Nat.le_refl _) h) (fun e => by have := World.block_lt_of_cell? W _ h; omega)
      have c0 := S c0
      have c1 := S c1
      have c2 := S c2
      have c3 := S c3
      have c4 := S c4
      have c5 := S c5
      have c6 := S c6
      rw [hxw] at c1
      obtain ⟨w6, hw6⟩ : ∃ w6, w6 = wr.alloc (.cells #[.string x.s, .int .i64 (wk : Int), .bool x.rb, .int .i64 x.d0, .int .i64 x.d1, .int .i64 x.d2, .int .i64 x.d3] 99) := ⟨_, rfl⟩
      have b6 : Below wr.heap.size wr w6 := by rw [hw6]; exact bAl _ _
      have r6 : w6.heap[wr.heap.size]? = some (.cells #[.string x.s, .int .i64 (wk : Int), .bool x.rb, .int .i64 x.d0, .int .i64 x.d1, .int .i64 x.d2, .int .i64 x.d3] 99 (0, 0)) := by rw [hw6]; exact heap_alloc_new wr _
      obtain ⟨l, hl⟩ : ∃ l, l = ws.take k := ⟨_, rfl⟩
      have HT : Hid (ws.take (k + 1) = l ++ [wk]) := by show _ = _; rw [List.take_add_one, hwk, hl]; rfl
      rw [← hl] at HN
      obtain ⟨oa, oc, rfl⟩ := HN.out.row.slice
      have hl9 : l.length ≤ 1000 := by rw [hl]; simp; omega
      have ROW := hid (HN.out.row.later b6)
      have BOX := hid (blk_seen b6 (Nat.le_refl _) HN.out.box)
      have y0 : w6.cell? ⟨w4.heap.size + 2, 0, none⟩ = some (.slice oa l.length oc) := cell_blk BOX.out rfl
      have y1 : w6.cell? ⟨wr.heap.size, 1, none⟩ = some (.int .i64 (wk : Int)) := cell_blk r6 rfl
      have hne : (Value.slice oa l.length oc).ownBlock ≠ some (w4.heap.size + 2) := fun e => by have := (ROW.out.lt _ e).1; omega
      have hB6 : w5.heap.size ≤ w6.heap.size := Nat.le_trans HN.out.st.size b6.size
      have htn : ¬ (w4.heap.size + 2 = w6.heap.size) := by omega
      have htw : w4.heap.size + 2 < w6.heap.size := by omega
      have hwn : ¬ (wr.heap.size = w6.heap.size) := by have := (Array.getElem?_eq_some_iff.1 r6).1; omega
      have hwl : wr.heap.size < w6.heap.size := (Array.getElem?_eq_some_iff.1 r6).1
      have B6 := hid b6
      have HW6 := hid hw6
      clear S hc hx hwk hxw hw6 b6 r6 hl
      go_upto_region 14 with fail
      rw [← HW6.out]
      go_region_law (refine step_wid (k := wk) rfl _ _ rfl ROW.out hl9 hB6 BOX.out rfl hne rfl rfl ?_; intro g' cap w7 hg hx7 hf7)
      all_goals
        have NX := hid (HN.out.next z5 B6.out hg.out.1 hg.out.2.1 hg.out.2.2.1)
        clear hx7 hf7
        go_wp2_with fail
        go_roundg (cs.length - (k + 1))
        case measure => omega
        case rel => exact ⟨k + 1, by omega, rfl, by go_num, _, by rw [HT.out]; exact NX.out⟩
    · have hki : ¬ ((k : Int) < (cs.length : Int)) := by omega
      have hkl : k = cs.length := by omega
      have hN := HN.out
      have ew : ws.take k = ws := List.take_of_length_le (by rw [hkl, HLW.out]; exact Nat.le_refl _)
      rw [ew] at hN
      have hA := A4.out
      rw [HLW.out] at hA
      have MD := hid (Sto.made (B := W.heap.size) (ws := ws) B2.out.size R3.out hA B34.out B23.out.size (B45.out.trans (hN.st.below (B := w4.heap.size) (fun q hq => by omega) B45.out.size)) hN.box (M5.out.kept hN.st (by omega)) (hN.st.at S5.out (by omega)) (hN.row.lower (by omega)) (by omega) (Nat.le_refl _) (by omega) HOK.out)
      have BB := hid (BW5.out.trans (hN.st.below (B := W.heap.size) (fun q hq => by have := B2.out.size; have := B23.out.size; have := B34.out.size; omega) BW5.out.size))
      clear hN hA ew
      go_wp2_with fail
      obtain ⟨c, e1, e2, -⟩ := MD.out
      exact bodyPost_ret (v := .tuple #[.pointer (some ⟨w4.heap.size + 2, 0, none⟩), .nilIface]) (by simp [results, Tryz.results10, go_sem]) rfl ⟨_, rfl, c, e1, e2, BB.out⟩
end Go.Proofs.YtagjmggiaffihaaGreatDoor.So
namespace Go.Proofs.YtagjmggiaffihaaGreatDoor.So
open Go.RowKit Go.Shelf Go.Maps
open Go.Proofs.YtagjmggiaffihaaGreatDoor.Co (I64 I64_mid Pt Col CS)
open Go.Proofs.YtagjmggiaffihaaGreatDoor.At (St bAl cell_blk blk_seen blk_free Ints Atl mtB)
open Go.Proofs.YtagjmggiaffihaaGreatDoor.Ro (RS Rol Ents)
open Go.Proofs.YtagjmggiaffihaaGreatDoor.Rs (SD mskP Prt Prts PRow okW fitP remP pCells)
open Go.Proofs.YtagjmggiaffihaaGreatDoor.Sc (Cmp Rsc CmpRow RscRow SmallC SmallQ checkL)
/-- A block beside a store. -/
def Fr (c : CV) (W : World) (k : Nat) (o : Obj) : Prop := c.f k = (0, 0, 0) ∧ W.heap[k]? = some o
theorem Fr.later {c : CV} {W W' : World} {k : Nat} {o : Obj} (h : Fr c W k o) (hb : Below W.heap.size W W') : Fr c W' k o := ⟨h.1, blk_seen hb (Nat.le_refl _) h.2⟩
theorem Fr.step {c c' : CV} {W W' : World} {k : Nat} {o : Obj} (h : Fr c W k o) (g : Gw c c' W W') : Fr c' W' k o := by
  refine ⟨Classical.byContradiction fun q => ?_, g.st.at h.2 fun q => q h.1⟩
  rcases g.new k q with e | e
  · exact e h.1
  · have := (Array.getElem?_eq_some_iff.1 h.2).1; omega
theorem Fr.new {ex : Option Nat} {B : Nat} {W : World} {sb : Nat} {c : CV} {s : SD} (h : Sto ex B W sb c s) (cs : Array Value) (t : TypeId) : Fr c (W.alloc (.cells cs t)) W.heap.size (.cells cs t (0, 0)) :=
  ⟨Classical.byContradiction fun q => by have := (h.lt _ q).2; omega, heap_alloc_new W _⟩
theorem Fr.prow {c : CV} {W : World} {k cap : Nat} {l : List Prt} {cur : Array Value} (h : Fr c W k (.cells cur 47 (0, 0))) (h3 : l.length ≤ cap) (h4 : cap ≤ maxLen) (h5 : cur.size = cap * 6) (h6 : cur.toList.take (l.length * 6) = pCells l) : PRowOut (fun k => c.f k ≠ (0, 0, 0)) W (.slice (some ⟨k, 0, none⟩) l.length cap) l :=
  prow_out (prts_of (N := 0) (Nat.zero_le _) h.2 h3 h4 h5 h6) fun k' hk q => q (by obtain rfl : k = k' := (by simpa [Value.ownBlock] using hk); exact h.1)
theorem Gw.below {ex : Option Nat} {B : Nat} {W W' : World} {sb : Nat} {c c' : CV} {s : SD} (h : Sto ex B W sb c s) (g : Gw c c' W W') (hB : B ≤ W.heap.size) : Below B W W' := g.st.below (fun k hk => (h.lt k hk).1) hB
def cmpsTwo : List Cmp := [⟨⟨#[97]⟩, 1, true, 0, 0, 0, 0⟩, ⟨⟨#[98]⟩, 2, false, 0, 0, 0, 0⟩]
theorem two_ok : checkL cmpsTwo [] = [] := by kernel_rfl
theorem two_small : SmallC cmpsTwo ∧ SmallQ [] := by
  refine ⟨⟨by decide, fun c hc => ?_⟩, by decide, fun c hc => by simp at hc⟩
  simp [cmpsTwo] at hc
  rcases hc with rfl | rfl <;> decide
theorem two_w : okW [1, 2] := by
  refine ⟨by decide, fun w hw => ?_⟩
  simp at hw
  rcases hw with rfl | rfl <;> decide
def q1 : List Prt := [⟨1, 0, 0, 0, 0, 0⟩, ⟨0, 5, 0, 0, 0, 0⟩]
def q2 : List Prt := [⟨0, 0, 0, 0, 0, 0⟩, ⟨1, 0, 0, 0, 0, 0⟩]
def s0 : SD := madeS [1, 2] 4
def s1 : SD := entered { s0 with r := s0.r.took 0 } 0 (sortP q1)
def s2 : SD := entered { s1 with r := s1.r.took 1 } 1 (sortP q2)
def s3 : SD := entered s2 1 (remP (s2.at 1) 1)
def s4 : SD := rowed s3 0 (putP (s3.at 0) (setQ ⟨0, 5, 0, 0, 0, 0⟩ 0 9 3))
theorem f0 : s0.r.free = [3, 2, 1] ++ [0] := by kernel_rfl
theorem f1 : s1.r.free = [3, 2] ++ [1] := by kernel_rfl
theorem k0 : chkL s0.ws q1 = 0 := by decide
theorem k1 : chkL s1.ws q2 = 0 := by decide
theorem a20 : al s2 0 1 := by unfold al; kernel_rfl
theorem a21 : al s2 1 1 := by unfold al; kernel_rfl
theorem a30 : al s3 0 1 := by unfold al; kernel_rfl
theorem a31 : al s3 1 1 := by unfold al; kernel_rfl
theorem p20 : s2.at 0 = [⟨0, 5, 0, 0, 0, 0⟩, ⟨1, 0, 0, 0, 0, 0⟩] := by kernel_rfl
theorem p21 : s2.at 1 = [⟨0, 0, 0, 0, 0, 0⟩, ⟨1, 0, 0, 0, 0, 0⟩] := by kernel_rfl
theorem p30 : s3.at 0 = [⟨0, 5, 0, 0, 0, 0⟩, ⟨1, 0, 0, 0, 0, 0⟩] := by kernel_rfl
theorem p31 : s3.at 1 = [⟨0, 0, 0, 0, 0, 0⟩] := by kernel_rfl
theorem n4 : s4.r.count = 2 := by kernel_rfl
theorem m4 : s4.sets.length = 3 := by kernel_rfl
theorem d4 : (matched s4 1 0).length = 2 ∧ (matched s4 1 2).length = 1 ∧ (changedL s4 0 3).length = 1 := by decide
theorem a4 : s4.r.aliveB 1 1 = true := by kernel_rfl
theorem g0 : s0.r.gens.getD 0 0 + 1 = 1 ∧ s1.r.gens.getD 1 0 + 1 = 1 := by decide
end Go.Proofs.YtagjmggiaffihaaGreatDoor.So
namespace Go.Proofs.YtagjmggiaffihaaGreatDoor.So
open Go.RowKit Go.Shelf Go.Maps
open Go.Proofs.YtagjmggiaffihaaGreatDoor.Co (I64 I64_mid Pt Col CS)
open Go.Proofs.YtagjmggiaffihaaGreatDoor.At (St bAl cell_blk blk_seen blk_free Ints Atl mtB Err)
open Go.Proofs.YtagjmggiaffihaaGreatDoor.Ro (RS Rol Ents)
open Go.Proofs.YtagjmggiaffihaaGreatDoor.Rs (SD mskP Prt Prts PRow okW fitP remP pCells)
open Go.Proofs.YtagjmggiaffihaaGreatDoor.Sc (Cmp Rsc CmpRow RscRow SmallC SmallQ checkL)
/-- A store, and blocks beside it. -/
structure Aw (W1 : World) (sb : Nat) (s : SD) (t : Nat) (fr : List (Nat × Obj)) (w : World) : Prop where
  ex : ∃ c, Sto none W1.heap.size w sb c s ∧ c.t ≤ t ∧ ∀ x ∈ fr, Fr c w x.1 x.2
  bel : Below W1.heap.size W1 w
section
variable {W1 w w' : World} {sb : Nat} {s s' : SD} {t : Nat} {fr : List (Nat × Obj)} {Ad : Nat → Addr}
theorem Aw.later (h : Aw W1 sb s t fr w) (hb : Below w.heap.size w w') : Aw W1 sb s t fr w' := by
  obtain ⟨c, h1, h2, h3⟩ := h.ex
  exact ⟨⟨c, h1.later hb, h2, fun x hx => (h3 x hx).later hb⟩, h.bel.trans (hb.mono h.bel.size)⟩
theorem Aw.alloc (h : Aw W1 sb s t fr w) (cs : Array Value) (ty : TypeId) : Aw W1 sb s t ((w.heap.size, .cells cs ty (0, 0)) :: fr) (w.alloc (.cells cs ty)) := by
  obtain ⟨c, h1, h2, h3⟩ := h.ex
  have hb := bAl w (.cells cs ty)
  refine ⟨⟨c, h1.later hb, h2, fun x hx => ?_⟩, h.bel.trans (hb.mono h.bel.size)⟩
  rcases List.mem_cons.1 hx with rfl | hx
  · exact Fr.new h1 cs ty
  · exact (h3 x hx).later hb
theorem Aw.at (h : Aw W1 sb s t fr w) {k : Nat} {o : Obj} (hk : (k, o) ∈ fr) : w.heap[k]? = some o := by
  obtain ⟨c, h1, h2, h3⟩ := h.ex
  exact (h3 _ hk).2
theorem Aw.few (h : Aw W1 sb s t fr w) {fr' : List (Nat × Obj)} (hf : ∀ x ∈ fr', x ∈ fr) : Aw W1 sb s t fr' w := by
  obtain ⟨c, h1, h2, h3⟩ := h.ex
  exact ⟨⟨c, h1, h2, fun x hx => h3 x (hf x hx)⟩, h.bel⟩
theorem Aw.env (h : Aw W1 sb s t fr w) (hE : Env8 W1 Ad) : Env8 w Ad := hE.later h.bel
theorem Aw.go {c c' : CV} (h1 : Sto none W1.heap.size w sb c s) (h3 : ∀ x ∈ fr, Fr c w x.1 x.2) (hb : Below W1.heap.size W1 w) {t' : Nat} (e1 : Sto none W1.heap.size w' sb c' s') (e2 : c'.t ≤ t') (e3 : Gw c c' w w') : Aw W1 sb s' t' fr w' :=
  ⟨⟨c', e1, e2, fun x hx => (h3 x hx).step e3⟩, hb.trans ((Gw.below h1 e3 hb.size).mono (Nat.le_refl _))⟩
theorem aw_spawn (h : Aw W1 sb s t fr w) (hE : Env8 W1 Ad) (ht : t ≤ 900) {k : Nat} {cur : Array Value} {l : List Prt} {cap : Nat} (hk : (k, .cells cur 47 (0, 0)) ∈ fr) (h3 : l.length ≤ cap) (h4 : cap ≤ maxLen) (h5 : cur.size = cap * 6) (h6 : cur.toList.take (l.length * 6) = pCells l) (hl : l.length ≤ 90) (hc : chkL s.ws l = 0) (hti : ∀ p ∈ l, I64 p.t) {f : List Nat} {i g : Nat} (hf : s.r.free = f ++ [i]) (hg : s.r.gens.getD i 0 + 1 = g) :
    Calls Tryz.prog 16 #[.pointer (some ⟨sb, 0, none⟩), .slice (some ⟨k, 0, none⟩) l.length cap] w fun e w' => e = .returned (.tuple #[.agg #[.int .i64 (i : Int), .int .i64 (g : Int)], .nilIface]) ∧ Aw W1 sb (entered { s with r := s.r.took i } i (sortP l)) (t + 1) fr w' := by
  obtain ⟨c, e1, e2, e3⟩ := h.ex
  refine (spawn_ok Ad e1 (h.env hE) ((e3 _ hk).prow h3 h4 h5 h6) hl hc hti hf (by omega)).mono ?_
  rintro e w' ⟨rfl, c', q1, q2, q3⟩
  exact ⟨by rw [hg], Aw.go e1 e3 h.bel q1 (by omega) q3⟩
theorem aw_get (h : Aw W1 sb s t fr w) {i g : Nat} (ha : al s i g) (p : Prt) (hp : p ∈ s.at i) :
    Calls Tryz.prog 38 #[.pointer (some ⟨sb, 0, none⟩), .agg #[.int .i64 (i : Int), .int .i64 (g : Int)], .int .i64 p.c] w fun e w' => e = .returned (.tuple #[p.val, .nilIface]) ∧ Aw W1 sb s t fr w' := by
  obtain ⟨c, e1, e2, e3⟩ := h.ex
  refine (get_ok e1 ha p hp).mono ?_
  rintro e w' ⟨rfl, q⟩
  exact ⟨rfl, h.later q⟩
theorem aw_remove (h : Aw W1 sb s t fr w) {i g : Nat} (ha : al s i g) (p : Prt) (hp : p ∈ s.at i) :
    Calls Tryz.prog 23 #[.pointer (some ⟨sb, 0, none⟩), .agg #[.int .i64 (i : Int), .int .i64 (g : Int)], .int .i64 p.c] w fun e w' => e = .returned (.tuple #[p.val, .nilIface]) ∧ Aw W1 sb (entered s i (remP (s.at i) p.c)) t fr w' := by
  obtain ⟨c, e1, e2, e3⟩ := h.ex
  refine (remove_ok e1 ha p hp).mono ?_
  rintro e w' ⟨rfl, c', q1, q2, q3⟩
  exact ⟨rfl, Aw.go e1 e3 h.bel q1 (by omega) q3⟩
theorem aw_setno (h : Aw W1 sb s t fr w) (hE : Env8 W1 Ad) {i g : Nat} (ha : al s i g) (comp : Int) (hc : I64 comp) (hno : ∀ p ∈ s.at i, p.c ≠ comp) (cell value frame : Int) :
    Calls Tryz.prog 27 #[.pointer (some ⟨sb, 0, none⟩), .agg #[.int .i64 (i : Int), .int .i64 (g : Int)], .int .i64 comp, .int .i64 cell, .int .i64 value, .int .i64 frame] w fun e w' => ∃ tt qq, e = .returned (.tuple #[Pt.zero.val 0, .iface tt qq]) ∧ (∃ d, Err Ad w' (.iface tt qq) 7 d) ∧ Aw W1 sb s t fr w' := by
  obtain ⟨c, e1, e2, e3⟩ := h.ex
  refine (set_none e1 (h.env hE) ha comp hc hno cell value frame).mono ?_
  rintro e w' ⟨r, rfl, q1, q2⟩
  rcases q1 with ⟨e, -⟩ | ⟨-, tt, qq, rfl, hd⟩
  · omega
  · exact ⟨tt, qq, rfl, hd, h.later q2⟩
theorem aw_set (h : Aw W1 sb s t fr w) {i g : Nat} (ha : al s i g) (q : Prt) (hq : q ∈ s.at i) {cc wd : Nat} (hcc : q.c = (cc : Int)) (hw : s.ws[cc]? = some wd) (j : Nat) (hj : j < wd) (value frame : Int) (hfr : I64 frame) :
    Calls Tryz.prog 27 #[.pointer (some ⟨sb, 0, none⟩), .agg #[.int .i64 (i : Int), .int .i64 (g : Int)], .int .i64 q.c, .int .i64 (j : Int), .int .i64 value, .int .i64 frame] w fun e w' => e = .returned (.tuple #[q.val, .nilIface]) ∧ Aw W1 sb (rowed s i (putP (s.at i) (setQ q j value frame))) t fr w' := by
  obtain ⟨c, e1, e2, e3⟩ := h.ex
  refine (set_ok e1 ha q hq hcc hw j hj value frame hfr).mono ?_
  rintro e w' ⟨rfl, c', q1, q2, -, q3⟩
  exact ⟨rfl, Aw.go e1 e3 h.bel q1 (by omega) q3⟩
theorem aw_match (h : Aw W1 sb s t fr w) (a b : Nat) (ha : a < 4294967296) (hb : b < 4294967296) :
    Calls Tryz.prog 30 #[.pointer (some ⟨sb, 0, none⟩), .int .u32 (a : Int), .int .u32 (b : Int)] w fun e w' => ∃ va vc, e = .returned (.slice va (matched s a b).length vc) ∧ Aw W1 sb s t fr w' := by
  obtain ⟨c, e1, e2, e3⟩ := h.ex
  refine (smatch_any e1 a b ha hb).mono ?_
  rintro e w' ⟨v, rfl, q1, q2⟩
  obtain ⟨va, vc, rfl⟩ := Ents.slice q1
  exact ⟨va, vc, rfl, h.later q2⟩
theorem aw_changed (h : Aw W1 sb s t fr w) (comp f : Int) (hc : I64 comp) :
    Calls Tryz.prog 32 #[.pointer (some ⟨sb, 0, none⟩), .int .i64 comp, .int .i64 f] w fun e w' => ∃ va vc, e = .returned (.slice va (changedL s comp f).length vc) ∧ Aw W1 sb s t fr w' := by
  obtain ⟨c, e1, e2, e3⟩ := h.ex
  refine (changed_any e1 comp f hc).mono ?_
  rintro e w' ⟨v, rfl, q1, q2⟩
  obtain ⟨va, vc, rfl⟩ := Ents.slice q1
  exact ⟨va, vc, rfl, h.later q2⟩
theorem aw_alive (h : Aw W1 sb s t fr w) (i g : Int) (hi : I64 i) (hg : I64 g) :
    Calls Tryz.prog 40 #[.pointer (some ⟨sb, 0, none⟩), .agg #[.int .i64 i, .int .i64 g]] w fun e w' => e = .returned (.bool (s.r.aliveB i g)) ∧ Aw W1 sb s t fr w' := by
  obtain ⟨c, e1, e2, e3⟩ := h.ex
  refine (alive_any e1 i g hi hg).mono ?_
  rintro e w' ⟨rfl, q2⟩
  exact ⟨rfl, h.later q2⟩
theorem aw_count (h : Aw W1 sb s t fr w) : Calls Tryz.prog 35 #[.pointer (some ⟨sb, 0, none⟩)] w fun e w' => e = .returned (.int .i64 (s.r.count : Int)) ∧ w' = w := by
  obtain ⟨c, e1, e2, e3⟩ := h.ex
  exact scount_any e1
theorem aw_tables (h : Aw W1 sb s t fr w) : Calls Tryz.prog 37 #[.pointer (some ⟨sb, 0, none⟩)] w fun e w' => e = .returned (.int .i64 (s.sets.length : Int)) ∧ w' = w := by
  obtain ⟨c, e1, e2, e3⟩ := h.ex
  exact tables_any e1
theorem aw_is (h : Aw W1 sb s t fr w) (hE : Env8 W1 Ad) {v : Value} {d : Nat} (hv : Err Ad w v 7 d) : Calls Tryz.prog 13 #[v, .iface 278 (.pointer (some (Ad 7)))] w fun e w' => e = .returned (.bool true) ∧ Aw W1 sb s t fr w' := by
  refine (Co.is_err Ad (Env8.three (h.env hE)) hv (k := 7) (by decide) (by decide)).mono ?_
  rintro e w' ⟨rfl, q⟩
  exact ⟨by simp, h.later q⟩
end
set_option maxHeartbeats 800000 in
set_option maxRecDepth 100000 in
theorem two_any (W : World) : Calls Tryz.prog 50 #[] W fun e W' => ∃ va, e = .returned (.agg #[va, .slice none 0 0]) ∧ CmpRow W' va cmpsTwo ∧ Below W.heap.size W W' := by
  go_enter Tryz.func50, Tryz.ntmps50
  go_wp2_with fail
  obtain ⟨b1, r1, p1⟩ := Rs.two_blk W #[.slice (some ⟨W.heap.size + 1, 0, none⟩) 2 2, .slice none 0 0] #[.string ⟨#[97]⟩, .int .i64 1, .bool true, .int .i64 0, .int .i64 0, .int .i64 0, .int .i64 0, .string ⟨#[98]⟩, .int .i64 2, .bool false, .int .i64 0, .int .i64 0, .int .i64 0, .int .i64 0] 25 99
  generalize (W.alloc (.cells #[.slice (some ⟨W.heap.size + 1, 0, none⟩) 2 2, .slice none 0 0] 25)).alloc (.cells #[.string ⟨#[97]⟩, .int .i64 1, .bool true, .int .i64 0, .int .i64 0, .int .i64 0, .int .i64 0, .string ⟨#[98]⟩, .int .i64 2, .bool false, .int .i64 0, .int .i64 0, .int .i64 0, .int .i64 0] 99) = w1 at *
  have x0 : w1.cell? ⟨W.heap.size, 0, none⟩ = some (.slice (some ⟨W.heap.size + 1, 0, none⟩) 2 2) := cell_blk r1 rfl
  have x1 : w1.cell? ⟨W.heap.size, 1, none⟩ = some (.slice none 0 0) := cell_blk r1 rfl
  refine bodyPost_ret (v := .agg #[.slice (some ⟨W.heap.size + 1, 0, none⟩) 2 2, .slice none 0 0]) (by simp [results, Tryz.results50, go_sem, x0, x1]) rfl ⟨_, rfl, ⟨_, 2, rfl, by decide, .inr ⟨W.heap.size + 1, 0, rfl, fun j x hj => ?_⟩⟩, b1⟩
  match j, hj with
  | 0, hj =>
    obtain rfl : (⟨⟨#[97]⟩, 1, true, 0, 0, 0, 0⟩ : Cmp) = x := by simpa [cmpsTwo] using hj
    exact ⟨cell_blk p1 rfl, cell_blk p1 rfl, cell_blk p1 rfl, cell_blk p1 rfl, cell_blk p1 rfl, cell_blk p1 rfl, cell_blk p1 rfl⟩
  | 1, hj =>
    obtain rfl : (⟨⟨#[98]⟩, 2, false, 0, 0, 0, 0⟩ : Cmp) = x := by simpa [cmpsTwo] using hj
    exact ⟨cell_blk p1 rfl, cell_blk p1 rfl, cell_blk p1 rfl, cell_blk p1 rfl, cell_blk p1 rfl, cell_blk p1 rfl, cell_blk p1 rfl⟩
  | j + 2, hj => simp [cmpsTwo] at hj
end Go.Proofs.YtagjmggiaffihaaGreatDoor.So
namespace Go.Proofs.YtagjmggiaffihaaGreatDoor.So
open Go.RowKit Go.Shelf Go.Maps
open Go.Proofs.YtagjmggiaffihaaGreatDoor.Co (I64 I64_mid Pt Col CS)
open Go.Proofs.YtagjmggiaffihaaGreatDoor.At (St bAl cell_blk blk_seen blk_free Ints Err)
open Go.Proofs.YtagjmggiaffihaaGreatDoor.Rs (SD mskP Prt Prts PRow okL fitP remP)
theorem ch_kept {Ad : Nat → Addr} {N n₀ k : Nat} {W W' : World} {S : Nat → Prop} (hs : ∀ b, b < n₀ → ¬ S b → W'.heap[b]? = W.heap[b]?) (hn : ∀ b, S b → ∀ str, W.cell? ⟨b, 0, none⟩ ≠ some (.string str)) (hN : n₀ ≤ N) : ∀ {ws : List ByteArray} {v : Value}, Ch Ad n₀ W k ws v → Ch Ad N W' k ws v
  | [], _, hc => hc
  | _ :: _, _, ⟨b, inner, hv, hb, c0, c1, hi⟩ => by
    have e : W'.heap[b]? = W.heap[b]? := hs b hb fun q => hn b q _ c0
    refine ⟨b, inner, hv, by omega, ?_, ?_, ch_kept hs hn hN hi⟩
    · rw [← c0]; simp only [World.cell?, e]
    · rw [← c1]; simp only [World.cell?, e]
theorem cell_int {B : Nat} {W : World} {v : Value} {n : Nat} {xs : List Value} {t : TypeId} {z : Nat} (h : W.ownsRow B t z v n xs) (hz : 0 < z) (hx : ∀ u ∈ xs, ∃ i, u = .int .i64 i) {k : Nat} (hk : v.ownBlock = some k) (hn : 0 < n) (str : ByteArray) : W.cell? ⟨k, 0, none⟩ ≠ some (.string str) := fun e => by
  have hlen := h.1
  have h0 : 0 < xs.length := by rw [hlen]; exact Nat.mul_pos hn hz
  obtain ⟨u, hu⟩ := at_lt xs 0 h0
  have := World.ownsRow.cells h hk 0 u hu
  rw [add_at] at this
  change W.cell? ⟨k, 0, none⟩ = some u at this
  rw [this] at e
  obtain ⟨i, rfl⟩ := hx u (List.mem_of_getElem? hu)
  simp at e
theorem col_nostr {B : Nat} {W : World} {rb : Nat} {s : CS} {S : Nat → Prop} (h : Col B W rb s S) (hne : 0 < s.rows.length) {k : Nat} (hk : S k) (str : ByteArray) : W.cell? ⟨k, 0, none⟩ ≠ some (.string str) := by
  obtain ⟨mb, sv, h1, h2⟩ := h
  rcases (h2 k).1 hk with rfl | rfl | hv
  · intro e
    rw [cell_blk h1.box rfl] at e
    simp at e
  · intro e
    obtain ⟨D, ⟨es, cl, hb, -⟩, -⟩ := h1.map
    simp [World.cell?, hb] at e
  · refine cell_int h1.row (by decide) (fun u hu => ?_) hv (Nat.mul_pos hne h1.ok.1) str
    obtain ⟨p, -, hp⟩ := List.mem_flatMap.1 hu
    obtain ⟨i, -, rfl⟩ := List.mem_map.1 hp
    exact ⟨i, rfl⟩
/-- Errors that were told before are told still. -/
def Ke (W w : World) : Prop := W.heap.size ≤ w.heap.size ∧ ∀ (Ad : Nat → Addr) k ws v, Ch Ad W.heap.size W k ws v → Ch Ad W.heap.size w k ws v
theorem Ke.below {W w w' : World} (h : Ke W w) (hb : Below W.heap.size w w') : Ke W w' := ⟨Nat.le_trans h.1 hb.size, fun Ad k ws v hv => Ch.below hb (h.2 Ad k ws v hv)⟩
theorem Ke.of {W w : World} (hb : Below W.heap.size W w) : Ke W w := ⟨hb.size, fun _ _ _ _ hv => Ch.below hb hv⟩
theorem Ke.err {W w : World} {Ad : Nat → Addr} {v : Value} {k d : Nat} (h : Ke W w) (hv : Err Ad W v k d) : Err Ad w v k d := by
  obtain ⟨ws, h1, h2⟩ := hv
  exact ⟨ws, Ch.wider h.1 (h.2 Ad k ws v h1), h2⟩
section
variable {B : Nat} {W : World} {sb : Nat} {c : CV} {s : SD} {i g : Nat}
theorem set_ok2 (h : Sto none B W sb c s) (ha : al s i g) (q : Prt) (hq : q ∈ s.at i) {cc w : Nat} (hcc : q.c = (cc : Int)) (hw : s.ws[cc]? = some w) (j' : Nat) (hj' : j' < w) (value frame : Int) (hfr : I64 frame) :
    Calls Tryz.prog 27 #[.pointer (some ⟨sb, 0, none⟩), .agg #[.int .i64 (i : Int), .int .i64 (g : Int)], .int .i64 q.c, .int .i64 (j' : Int), .int .i64 value, .int .i64 frame] W fun e W' => e = .returned (.tuple #[q.val, .nilIface]) ∧ Tn B W sb c (rowed s i (putP (s.at i) (setQ q j' value frame))) W' ∧ Ke W W' := by
  obtain ⟨b1, r1, y1, y2, y3, z1, sz⟩ := sw_facts W (i : Int) (g : Int) (j' : Int) value frame
  obtain ⟨n, j, m, own, y, A⟩ := h.stands ha (by simp)
  have hw4 := h.okw.2 w (List.mem_of_getElem? hw)
  have hc16 : cc < 16 := by have := (A.ok.1.2 q hq).2; have := h.okw.1; omega
  have hbit := has_bit A.msk A.ok.1 hq hcc
  have hlt : ∀ k, c.f k ≠ (0, 0, 0) → k < W.heap.size := fun k hk => (h.lt k hk).2
  have hf : fitP s.ws (setQ q j' value frame) = true := by
    rw [Rs.fit_in (p := setQ q j' value frame) hcc hw]
    show ((pt q).put j' value frame).fitB w = true
    rw [Pt.put_fit _ hw4.2 hj']
    have := (A.ok.2 q hq).1
    rw [Rs.fit_in hcc hw] at this
    exact this
  have ht : I64 (setQ q j' value frame).t := by show I64 ((pt q).put j' value frame).t; rw [put_t]; exact hfr
  have hst : ∀ {a b : World} {RB : Nat}, W.heap.size ≤ RB → (Tn B W sb c (rowed s i (putP (s.at i) (setQ q j' value frame))) a ∧ Ke W a) → St (fun k => k = RB) a b → (Tn B W sb c (rowed s i (putP (s.at i) (setQ q j' value frame))) b ∧ Ke W b) := fun hR e hs => ⟨e.1.st hlt hR hs, e.2.below (hs.below (B := W.heap.size) (fun k hk => by omega) e.2.1)⟩
  refine Calls.mono (set_tail (Ad := fun _ => ⟨0, 0, none⟩) (W := W) (i := (i : Int)) (g := (g : Int)) (cm := (cc : Int)) (u := pt q) (k := 0) (Q := fun w => Tn B W sb c (rowed s i (putP (s.at i) (setQ q j' value frame))) w ∧ Ke W w) ⟨fun _ _ e hb => ⟨e.1.later hb, e.2.below (hb.mono e.2.1)⟩, fun _ _ e hs => hst (by omega) e hs⟩ (.inl rfl) ?_) ?_
  · rw [hcc]
    refine (part_ok (h.later b1) ha A cc hc16 hbit 83 #[.pointer (some ⟨W.heap.size + 1, 0, none⟩), .pointer (some ⟨W.heap.size + 2, 0, none⟩), .pointer (some ⟨W.heap.size + 3, 0, none⟩)] enters_set1 (pt q) (fun w => (Tn B W sb c (rowed s i (putP (s.at i) (setQ q j' value frame))) w ∧ Ke W w) ∧ w.heap[W.heap.size + 4]? = some (.cells (Pt.zero.arr 0) 47 (0, 0))) (fun w w' e hs => ⟨hst (by omega) e.1 hs, hs.at e.2 (by omega)⟩) fun W2 hb2 _ => ?_).mono ?_
    · have b2 := b1.trans (hb2.mono b1.size)
      obtain ⟨w', hw', hcol⟩ := ((h.later b2).tabOf A).col cc hbit
      obtain rfl : w = w' := by rw [hw] at hw'; simpa using hw'
      refine (set1_any hcol j (pt q) (row_here A.here A.ok.1 hq hcc) j' hj' value frame hfr (W.heap.size + 1) (W.heap.size + 2) (W.heap.size + 3) (cell_blk (blk_seen hb2 (Nat.le_refl _) y1) rfl) (cell_blk (blk_seen hb2 (Nat.le_refl _) y2) rfl) (cell_blk (blk_seen hb2 (Nat.le_refl _) y3) rfl)).mono ?_
      rintro e W3 ⟨rfl, e1, e2⟩
      obtain ⟨⟨u1, u2⟩, u3⟩ := h.turned A ha hf ht hq rfl hcc hw b2 e1 e2 b1.size (by omega) (blk_seen hb2 (Nat.le_refl _) z1)
      refine ⟨rfl, ⟨⟨u1, ?_⟩, u2⟩, u3⟩
      have hne : 0 < (rowsOf s own cc).length := by
        have := (List.getElem?_eq_some_iff.1 A.here).1
        simp [rowsOf]; omega
      have k2 := Ke.of b2
      refine ⟨Nat.le_trans k2.1 e2.size, fun Ad' k' ws' v' hv' => ?_⟩
      exact ch_kept (S := fun k => c.f k = (5, n, cc)) (fun b hb hS => e2.block b (Nat.lt_of_lt_of_le hb k2.1) hS) (fun b hb str => col_nostr hcol hne hb str) (Nat.le_refl _) (k2.2 Ad' k' ws' v' hv')
    · rintro e w ⟨rfl, e1, e2⟩
      exact ⟨_, rfl, Er.none _ w, e1, e2⟩
  · rintro e w ⟨r, rfl, e1, e2⟩
    obtain rfl := Er.zero e1
    refine ⟨?_, e2⟩
    rw [pt_val, hcc]
end
theorem aw_set2 {W1 w : World} {sb : Nat} {s : SD} {t : Nat} {fr : List (Nat × Obj)} (h : Aw W1 sb s t fr w) {i g : Nat} (ha : al s i g) (q : Prt) (hq : q ∈ s.at i) {cc wd : Nat} (hcc : q.c = (cc : Int)) (hw : s.ws[cc]? = some wd) (j : Nat) (hj : j < wd) (value frame : Int) (hfr : I64 frame) :
    Calls Tryz.prog 27 #[.pointer (some ⟨sb, 0, none⟩), .agg #[.int .i64 (i : Int), .int .i64 (g : Int)], .int .i64 q.c, .int .i64 (j : Int), .int .i64 value, .int .i64 frame] w fun e w' => e = .returned (.tuple #[q.val, .nilIface]) ∧ Aw W1 sb (rowed s i (putP (s.at i) (setQ q j value frame))) t fr w' ∧ Ke w w' := by
  obtain ⟨c, e1, e2, e3⟩ := h.ex
  refine (set_ok2 e1 ha q hq hcc hw j hj value frame hfr).mono ?_
  rintro e w' ⟨rfl, ⟨c', q1, q2, -, q3⟩, q4⟩
  exact ⟨rfl, Aw.go e1 e3 h.bel q1 (by omega) q3, q4⟩
end Go.Proofs.YtagjmggiaffihaaGreatDoor.So
namespace Go.Proofs.YtagjmggiaffihaaGreatDoor.So
open Go.RowKit Go.Shelf Go.Maps
open Go.Proofs.YtagjmggiaffihaaGreatDoor.Co (I64 I64_mid Pt Col CS eqlP)
open Go.Proofs.YtagjmggiaffihaaGreatDoor.At (St bAl cell_blk blk_seen blk_free Ints Err)
open Go.Proofs.YtagjmggiaffihaaGreatDoor.Ro (RS)
open Go.Proofs.YtagjmggiaffihaaGreatDoor.Rs (SD mskP Prt Prts PRow okL fitP remP)
open Go.Proofs.YtagjmggiaffihaaGreatDoor.Sc (Cmp Rsc CmpRow RscRow)
set_option maxHeartbeats 6400000 in
set_option maxRecDepth 100000 in
theorem awake_any (Ad : Nat → Addr) (W : World) (hE : Env8 W Ad) : Calls Tryz.prog 8 #[] W fun e W' => e = .returned (.bool true) ∧ Below W.heap.size W W' := by
  have TW := hid (two_any W)
  have HE := hid hE
  have EQ := eqlP
  clear hE
  go_enter Tryz.func8, Tryz.ntmps8
  go_wp2_with fail
  refine TW.out.mono ?_
  rintro e w1 ⟨va, rfl, hC, hb1⟩
  have E1 := hid (HE.out.later hb1)
  have B1 := hid hb1
  have NW := hid (new_ok Ad w1 va (.slice none 0 0) cmpsTwo [] E1.out hC ⟨none, 0, rfl, Nat.le_refl _, .inl rfl⟩ two_small.1 two_small.2 two_ok [1, 2] rfl two_w 4 (by decide))
  clear hC hb1 TW
  go_wp2_with fail
  refine NW.out.mono ?_
  rintro e w2 ⟨sb, rfl, hn⟩
  have A2 : Hid (Aw w1 sb s0 0 [] w2) := by
    obtain ⟨c, q1, q2, q3⟩ := hn
    exact ⟨⟨c, q1, by omega, fun x hx => by simp at hx⟩, q3⟩
  have SP1 : Hid (Calls Tryz.prog 16 #[.pointer (some ⟨sb, 0, none⟩), .slice (some ⟨w2.heap.size, 0, none⟩) 2 2] (w2.alloc (.cells #[.int .i64 1, .int .i64 0, .int .i64 0, .int .i64 0, .int .i64 0, .int .i64 0, .int .i64 0, .int .i64 5, .int .i64 0, .int .i64 0, .int .i64 0, .int .i64 0] 47)) fun e w' => e = .returned (.tuple #[.agg #[.int .i64 0, .int .i64 1], .nilIface]) ∧ Aw w1 sb s1 1 [] w') :=
    (aw_spawn (A2.out.alloc #[.int .i64 1, .int .i64 0, .int .i64 0, .int .i64 0, .int .i64 0, .int .i64 0, .int .i64 0, .int .i64 5, .int .i64 0, .int .i64 0, .int .i64 0, .int .i64 0] 47) E1.out (by omega) (l := q1) (cap := 2) (List.mem_cons_self ..) (by decide) (by decide) rfl rfl (by decide) k0 (fun p hp => by simp [q1] at hp; rcases hp with rfl | rfl <;> exact I64_mid (by decide) (by decide)) f0 g0.1).mono fun e w' h => ⟨h.1, h.2.few fun x hx => by simp at hx⟩
  clear hn NW A2
  go_wp2_with fail
  refine SP1.out.mono ?_
  rintro e w3 ⟨rfl, hA3⟩
  obtain ⟨v3, hv3⟩ : ∃ v3, v3 = w3.alloc (.cells #[.int .i64 0, .int .i64 1] 43) := ⟨_, rfl⟩
  have A3 := hid (hA3.alloc #[.int .i64 0, .int .i64 1] 43)
  rw [← hv3] at A3
  have HV3 := hid hv3
  have SP2 : Hid (Calls Tryz.prog 16 #[.pointer (some ⟨sb, 0, none⟩), .slice (some ⟨v3.heap.size, 0, none⟩) 2 2] (v3.alloc (.cells #[.int .i64 0, .int .i64 0, .int .i64 0, .int .i64 0, .int .i64 0, .int .i64 0, .int .i64 1, .int .i64 0, .int .i64 0, .int .i64 0, .int .i64 0, .int .i64 0] 47)) fun e w' => e = .returned (.tuple #[.agg #[.int .i64 1, .int .i64 1], .nilIface]) ∧ Aw w1 sb s2 2 [(w3.heap.size, .cells #[.int .i64 0, .int .i64 1] 43 (0, 0))] w') :=
    (aw_spawn (A3.out.alloc #[.int .i64 0, .int .i64 0, .int .i64 0, .int .i64 0, .int .i64 0, .int .i64 0, .int .i64 1, .int .i64 0, .int .i64 0, .int .i64 0, .int .i64 0, .int .i64 0] 47) E1.out (by omega) (l := q2) (cap := 2) (List.mem_cons_self ..) (by decide) (by decide) rfl rfl (by decide) k1 (fun p hp => by simp [q2] at hp; rcases hp with rfl | rfl <;> exact I64_mid (by decide) (by decide)) f1 g0.2).mono fun e w' h => ⟨h.1, h.2.few fun x hx => List.mem_cons_of_mem _ hx⟩
  clear hA3 hv3 SP1 A3
  go_upto_region 5 with fail
  rw [← HV3.out]
  go_wp2_with fail
  refine SP2.out.mono ?_
  rintro e w4 ⟨rfl, hA4⟩
  obtain ⟨v4, hv4⟩ : ∃ v4, v4 = w4.alloc (.cells #[.int .i64 1, .int .i64 1] 43) := ⟨_, rfl⟩
  have A4 := hid (hA4.alloc #[.int .i64 1, .int .i64 1] 43)
  rw [← hv4] at A4
  have HV4 := hid hv4
  have x0 := cell_blk (A4.out.at (List.mem_cons_of_mem _ (List.mem_cons_self ..))) (j := 0) rfl
  have x1 := cell_blk (A4.out.at (List.mem_cons_of_mem _ (List.mem_cons_self ..))) (j := 1) rfl
  have GT : Hid (Calls Tryz.prog 38 #[.pointer (some ⟨sb, 0, none⟩), .agg #[.int .i64 0, .int .i64 1], .int .i64 0] v4 fun e w' => e = .returned (.tuple #[.agg #[.int .i64 0, .int .i64 5, .int .i64 0, .int .i64 0, .int .i64 0, .int .i64 0], .nilIface]) ∧ Aw w1 sb s2 2 [(w4.heap.size, .cells #[.int .i64 1, .int .i64 1] 43 (0, 0)), (w3.heap.size, .cells #[.int .i64 0, .int .i64 1] 43 (0, 0))] w') :=
    aw_get A4.out a20 ⟨0, 5, 0, 0, 0, 0⟩ (by rw [p20]; simp)
  clear hA4 hv4 SP2 A4 HV3
  go_upto_region 6 with fail
  rw [← HV4.out]
  go_wp2_with fail
  refine GT.out.mono ?_
  rintro e w5 ⟨rfl, hA5⟩
  obtain ⟨v5, hv5⟩ : ∃ v5, v5 = w5.alloc (.cells #[.int .i64 0, .int .i64 5, .int .i64 0, .int .i64 0, .int .i64 0, .int .i64 0] 47) := ⟨_, rfl⟩
  have A5 := hid (hA5.alloc #[.int .i64 0, .int .i64 5, .int .i64 0, .int .i64 0, .int .i64 0, .int .i64 0] 47)
  rw [← hv5] at A5
  have HV5 := hid hv5
  have y0 := cell_blk (A5.out.at (List.mem_cons_of_mem _ (List.mem_cons_self ..))) (j := 0) rfl
  have y1 := cell_blk (A5.out.at (List.mem_cons_of_mem _ (List.mem_cons_self ..))) (j := 1) rfl
  have RM : Hid (Calls Tryz.prog 23 #[.pointer (some ⟨sb, 0, none⟩), .agg #[.int .i64 1, .int .i64 1], .int .i64 1] v5 fun e w' => e = .returned (.tuple #[.agg #[.int .i64 1, .int .i64 0, .int .i64 0, .int .i64 0, .int .i64 0, .int .i64 0], .nilIface]) ∧ Aw w1 sb s3 2 [(w5.heap.size, .cells #[.int .i64 0, .int .i64 5, .int .i64 0, .int .i64 0, .int .i64 0, .int .i64 0] 47 (0, 0)), (w4.heap.size, .cells #[.int .i64 1, .int .i64 1] 43 (0, 0)), (w3.heap.size, .cells #[.int .i64 0, .int .i64 1] 43 (0, 0))] w') :=
    aw_remove A5.out a21 ⟨1, 0, 0, 0, 0, 0⟩ (by rw [p21]; simp)
  clear hA5 hv5 GT A5 HV4 x0 x1
  go_upto_region 7 with fail
  rw [← HV5.out]
  go_wp2_with fail
  refine RM.out.mono ?_
  rintro e w6 ⟨rfl, hA6⟩
  obtain ⟨v6, hv6⟩ : ∃ v6, v6 = w6.alloc (.cells #[.int .i64 1, .int .i64 0, .int .i64 0, .int .i64 0, .int .i64 0, .int .i64 0] 47) := ⟨_, rfl⟩
  have b6 := bAl w6 (.cells #[.int .i64 1, .int .i64 0, .int .i64 0, .int .i64 0, .int .i64 0, .int .i64 0] 47)
  have A6 := hid (hA6.later b6)
  rw [← hv6] at A6
  have HV6 := hid hv6
  have y0 := cell_blk (A6.out.at (List.mem_cons_of_mem _ (List.mem_cons_self ..))) (j := 0) rfl
  have y1 := cell_blk (A6.out.at (List.mem_cons_of_mem _ (List.mem_cons_self ..))) (j := 1) rfl
  have SN : Hid (Calls Tryz.prog 27 #[.pointer (some ⟨sb, 0, none⟩), .agg #[.int .i64 1, .int .i64 1], .int .i64 1, .int .i64 0, .int .i64 0, .int .i64 0] v6 fun e w' => ∃ tt qq, e = .returned (.tuple #[.agg #[.int .i64 0, .int .i64 0, .int .i64 0, .int .i64 0, .int .i64 0, .int .i64 0], .iface tt qq]) ∧ (∃ d, Err Ad w' (.iface tt qq) 7 d) ∧ Aw w1 sb s3 2 [(w5.heap.size, .cells #[.int .i64 0, .int .i64 5, .int .i64 0, .int .i64 0, .int .i64 0, .int .i64 0] 47 (0, 0)), (w4.heap.size, .cells #[.int .i64 1, .int .i64 1] 43 (0, 0)), (w3.heap.size, .cells #[.int .i64 0, .int .i64 1] 43 (0, 0))] w') :=
    aw_setno A6.out E1.out a31 1 (I64_mid (by decide) (by decide)) (fun p hp => by rw [p31] at hp; simp at hp; subst hp; decide) 0 0 0
  clear hA6 hv6 RM A6 HV5 b6
  go_upto_region 8 with fail
  rw [← HV6.out]
  go_wp2_with fail
  refine SN.out.mono ?_
  rintro e w7 ⟨tt, qq, rfl, ⟨d7, he7⟩, hA7⟩
  obtain ⟨v7, hv7⟩ : ∃ v7, v7 = w7.alloc (.cells #[.int .i64 0, .int .i64 0, .int .i64 0, .int .i64 0, .int .i64 0, .int .i64 0] 47) := ⟨_, rfl⟩
  have b7 := bAl w7 (.cells #[.int .i64 0, .int .i64 0, .int .i64 0, .int .i64 0, .int .i64 0, .int .i64 0] 47)
  have A7 := hid (hA7.later b7)
  have R7 := hid (he7.later b7)
  rw [← hv7] at A7 R7
  have HV7 := hid hv7
  have x0 := cell_blk (A7.out.at (List.mem_cons_of_mem _ (List.mem_cons_of_mem _ (List.mem_cons_self ..)))) (j := 0) rfl
  have x1 := cell_blk (A7.out.at (List.mem_cons_of_mem _ (List.mem_cons_of_mem _ (List.mem_cons_self ..)))) (j := 1) rfl
  have ST : Hid (Calls Tryz.prog 27 #[.pointer (some ⟨sb, 0, none⟩), .agg #[.int .i64 0, .int .i64 1], .int .i64 0, .int .i64 0, .int .i64 9, .int .i64 3] v7 fun e w' => e = .returned (.tuple #[.agg #[.int .i64 0, .int .i64 5, .int .i64 0, .int .i64 0, .int .i64 0, .int .i64 0], .nilIface]) ∧ Aw w1 sb s4 2 [(w5.heap.size, .cells #[.int .i64 0, .int .i64 5, .int .i64 0, .int .i64 0, .int .i64 0, .int .i64 0] 47 (0, 0)), (w4.heap.size, .cells #[.int .i64 1, .int .i64 1] 43 (0, 0)), (w3.heap.size, .cells #[.int .i64 0, .int .i64 1] 43 (0, 0))] w' ∧ Ke v7 w') :=
    aw_set2 A7.out a30 ⟨0, 5, 0, 0, 0, 0⟩ (by rw [p30]; simp) (cc := 0) (wd := 1) rfl rfl 0 (by decide) 9 3 (I64_mid (by decide) (by decide))
  clear hA7 he7 hv7 SN A7 HV6 b7 y0 y1
  go_upto_region 9 with fail
  rw [← HV7.out]
  go_wp2_with fail
  refine ST.out.mono ?_
  rintro e w8 ⟨rfl, hA8, hK8⟩
  obtain ⟨v8, hv8⟩ : ∃ v8, v8 = w8.alloc (.cells #[.int .i64 0, .int .i64 5, .int .i64 0, .int .i64 0, .int .i64 0, .int .i64 0] 47) := ⟨_, rfl⟩
  have A8 := hid (hA8.alloc #[.int .i64 0, .int .i64 5, .int .i64 0, .int .i64 0, .int .i64 0, .int .i64 0] 47)
  have b8 := bAl w8 (.cells #[.int .i64 0, .int .i64 5, .int .i64 0, .int .i64 0, .int .i64 0, .int .i64 0] 47)
  have R8 := hid ((hK8.err R7.out).later b8)
  rw [← hv8] at A8 R8
  have HV8 := hid hv8
  clear hA8 hK8 hv8 ST R7 HV7 b8 x0 x1
  go_upto_region 10 with fail
  rw [← HV8.out]
  have p1 : v8.cell? ⟨w5.heap.size, 1, none⟩ = some (.int .i64 5) := cell_blk (A8.out.at (List.mem_cons_of_mem _ (List.mem_cons_self ..))) rfl
  have c7 := e7 (A8.out.env E1.out)
  have IS := hid (aw_is A8.out E1.out R8.out)
  clear HV8
  go_wp2_with fail
  refine IS.out.mono ?_
  rintro e w9 ⟨rfl, hA9⟩
  have A9 := hid hA9
  have p0 : w9.cell? ⟨w5.heap.size, 0, none⟩ = some (.int .i64 0) := cell_blk (hA9.at (List.mem_cons_of_mem _ (List.mem_cons_self ..))) rfl
  have p1 : w9.cell? ⟨w5.heap.size, 1, none⟩ = some (.int .i64 5) := cell_blk (hA9.at (List.mem_cons_of_mem _ (List.mem_cons_self ..))) rfl
  have p2 : w9.cell? ⟨w5.heap.size, 2, none⟩ = some (.int .i64 0) := cell_blk (hA9.at (List.mem_cons_of_mem _ (List.mem_cons_self ..))) rfl
  have p3 : w9.cell? ⟨w5.heap.size, 3, none⟩ = some (.int .i64 0) := cell_blk (hA9.at (List.mem_cons_of_mem _ (List.mem_cons_self ..))) rfl
  have p4 : w9.cell? ⟨w5.heap.size, 4, none⟩ = some (.int .i64 0) := cell_blk (hA9.at (List.mem_cons_of_mem _ (List.mem_cons_self ..))) rfl
  have p5 : w9.cell? ⟨w5.heap.size, 5, none⟩ = some (.int .i64 0) := cell_blk (hA9.at (List.mem_cons_of_mem _ (List.mem_cons_self ..))) rfl
  have r0 : w9.cell? ⟨w8.heap.size, 0, none⟩ = some (.int .i64 0) := cell_blk (hA9.at (List.mem_cons_self ..)) rfl
  have r1 : w9.cell? ⟨w8.heap.size, 1, none⟩ = some (.int .i64 5) := cell_blk (hA9.at (List.mem_cons_self ..)) rfl
  have r2 : w9.cell? ⟨w8.heap.size, 2, none⟩ = some (.int .i64 0) := cell_blk (hA9.at (List.mem_cons_self ..)) rfl
  have r3 : w9.cell? ⟨w8.heap.size, 3, none⟩ = some (.int .i64 0) := cell_blk (hA9.at (List.mem_cons_self ..)) rfl
  have r4 : w9.cell? ⟨w8.heap.size, 4, none⟩ = some (.int .i64 0) := cell_blk (hA9.at (List.mem_cons_self ..)) rfl
  have r5 : w9.cell? ⟨w8.heap.size, 5, none⟩ = some (.int .i64 0) := cell_blk (hA9.at (List.mem_cons_self ..)) rfl
  have CN : Hid (Calls Tryz.prog 35 #[.pointer (some ⟨sb, 0, none⟩)] w9 fun e w' => e = .returned (.int .i64 2) ∧ w' = w9) := by
    have := aw_count hA9
    rw [n4] at this
    exact this
  have TB : Hid (Calls Tryz.prog 37 #[.pointer (some ⟨sb, 0, none⟩)] w9 fun e w' => e = .returned (.int .i64 3) ∧ w' = w9) := by
    have := aw_tables hA9
    rw [m4] at this
    exact this
  have M1 : Hid (Calls Tryz.prog 30 #[.pointer (some ⟨sb, 0, none⟩), .int .u32 1, .int .u32 0] w9 fun e w' => ∃ va vc, e = .returned (.slice va 2 vc) ∧ Aw w1 sb s4 2 [(w8.heap.size, .cells #[.int .i64 0, .int .i64 5, .int .i64 0, .int .i64 0, .int .i64 0, .int .i64 0] 47 (0, 0)), (w5.heap.size, .cells #[.int .i64 0, .int .i64 5, .int .i64 0, .int .i64 0, .int .i64 0, .int .i64 0] 47 (0, 0)), (w4.heap.size, .cells #[.int .i64 1, .int .i64 1] 43 (0, 0)), (w3.heap.size, .cells #[.int .i64 0, .int .i64 1] 43 (0, 0))] w') := by
    have := aw_match hA9 1 0 (by decide) (by decide)
    rw [d4.1] at this
    exact this
  clear IS A8 R8 c7 hA9
  go_wp2_with fail
  refine CN.out.mono ?_
  rintro e w' ⟨rfl, hq⟩
  obtain rfl := hq.symm
  go_wp2_with fail
  refine TB.out.mono ?_
  rintro e w' ⟨rfl, hq⟩
  obtain rfl := hq.symm
  go_wp2_with fail
  refine M1.out.mono ?_
  rintro e w10 ⟨va1, vc1, rfl, hA10⟩
  have M2 : Hid (Calls Tryz.prog 30 #[.pointer (some ⟨sb, 0, none⟩), .int .u32 1, .int .u32 2] w10 fun e w' => ∃ va vc, e = .returned (.slice va 1 vc) ∧ Aw w1 sb s4 2 [(w8.heap.size, .cells #[.int .i64 0, .int .i64 5, .int .i64 0, .int .i64 0, .int .i64 0, .int .i64 0] 47 (0, 0)), (w5.heap.size, .cells #[.int .i64 0, .int .i64 5, .int .i64 0, .int .i64 0, .int .i64 0, .int .i64 0] 47 (0, 0)), (w4.heap.size, .cells #[.int .i64 1, .int .i64 1] 43 (0, 0)), (w3.heap.size, .cells #[.int .i64 0, .int .i64 1] 43 (0, 0))] w') := by
    have := aw_match hA10 1 2 (by decide) (by decide)
    rw [d4.2.1] at this
    exact this
  clear CN TB M1 hA10 p0 p1 p2 p3 p4 p5 r0 r1 r2 r3 r4 r5
  go_wp2_with fail
  refine M2.out.mono ?_
  rintro e w11 ⟨va2, vc2, rfl, hA11⟩
  have CH : Hid (Calls Tryz.prog 32 #[.pointer (some ⟨sb, 0, none⟩), .int .i64 0, .int .i64 3] w11 fun e w' => ∃ va vc, e = .returned (.slice va 1 vc) ∧ Aw w1 sb s4 2 [(w8.heap.size, .cells #[.int .i64 0, .int .i64 5, .int .i64 0, .int .i64 0, .int .i64 0, .int .i64 0] 47 (0, 0)), (w5.heap.size, .cells #[.int .i64 0, .int .i64 5, .int .i64 0, .int .i64 0, .int .i64 0, .int .i64 0] 47 (0, 0)), (w4.heap.size, .cells #[.int .i64 1, .int .i64 1] 43 (0, 0)), (w3.heap.size, .cells #[.int .i64 0, .int .i64 1] 43 (0, 0))] w') := by
    have := aw_changed hA11 0 3 (I64_mid (by decide) (by decide))
    rw [d4.2.2] at this
    exact this
  clear M2 hA11
  go_wp2_with fail
  refine CH.out.mono ?_
  rintro e w12 ⟨va3, vc3, rfl, hA12⟩
  have y0 : w12.cell? ⟨w4.heap.size, 0, none⟩ = some (.int .i64 1) := cell_blk (hA12.at (List.mem_cons_of_mem _ (List.mem_cons_of_mem _ (List.mem_cons_self ..)))) rfl
  have y1 : w12.cell? ⟨w4.heap.size, 1, none⟩ = some (.int .i64 1) := cell_blk (hA12.at (List.mem_cons_of_mem _ (List.mem_cons_of_mem _ (List.mem_cons_self ..)))) rfl
  have AL : Hid (Calls Tryz.prog 40 #[.pointer (some ⟨sb, 0, none⟩), .agg #[.int .i64 1, .int .i64 1]] w12 fun e w' => e = .returned (.bool true) ∧ Aw w1 sb s4 2 [(w8.heap.size, .cells #[.int .i64 0, .int .i64 5, .int .i64 0, .int .i64 0, .int .i64 0, .int .i64 0] 47 (0, 0)), (w5.heap.size, .cells #[.int .i64 0, .int .i64 5, .int .i64 0, .int .i64 0, .int .i64 0, .int .i64 0] 47 (0, 0)), (w4.heap.size, .cells #[.int .i64 1, .int .i64 1] 43 (0, 0)), (w3.heap.size, .cells #[.int .i64 0, .int .i64 1] 43 (0, 0))] w') := by
    have := aw_alive hA12 1 1 (I64_mid (by decide) (by decide)) (I64_mid (by decide) (by decide))
    rw [a4] at this
    exact this
  clear CH hA12
  go_wp2_with fail
  refine AL.out.mono ?_
  rintro e w13 ⟨rfl, hA13⟩
  have BB := hid (B1.out.trans (hA13.bel.mono B1.out.size))
  clear hA13 AL
  go_wp2_with fail
  go_ret
  exact ⟨rfl, BB.out⟩
end Go.Proofs.YtagjmggiaffihaaGreatDoor.So
namespace Go.Proofs.YtagjmggiaffihaaGreatDoor.So
open Go.RowKit Go.Shelf Go.Maps
open Go.Proofs.YtagjmggiaffihaaGreatDoor.Co (I64 I64_mid)
open Go.Proofs.YtagjmggiaffihaaGreatDoor.At (St bAl cell_blk blk_seen blk_free)
open Go.Proofs.YtagjmggiaffihaaGreatDoor.Rs (SD mskP Prt Prts PRow okL fitP wpList_prt)
/-- The part that a law gives a component. -/
def lawP (v : Int) (k : Nat) : Prt := ⟨(k : Int), wrap64 (v + (k : Int)), 0, 0, 0, (k : Int)⟩
def lawL (m : Nat) (v : Int) : Nat → List Prt
  | 0 => []
  | k + 1 => if m.testBit k = true then lawL m v k ++ [lawP v k] else lawL m v k
theorem lawL_len (m : Nat) (v : Int) (k : Nat) : (lawL m v k).length ≤ k := by
  induction k with
  | zero => simp [lawL]
  | succ k ih =>
    unfold lawL
    split
    · simp; omega
    · omega
theorem bit_int (m k : Nat) : ((((m : Int) / 2 ^ k).tmod 2 == 1) : Bool) = m.testBit k := by
  have e : ((m : Int) / 2 ^ k) = ((m / 2 ^ k : Nat) : Int) := by simp
  rw [e, Int.tmod_eq_emod_of_nonneg (Int.natCast_nonneg _)]
  rw [Nat.testBit_eq_decide_div_mod_eq]
  rw [Bool.eq_iff_iff]
  simp
  omega
set_option maxHeartbeats 1600000 in
set_option maxRecDepth 100000 in
theorem parts_any (W : World) (m : Nat) (v : Int) :
    Calls Tryz.prog 46 #[.int .u32 (m : Int), .int .i64 v] W fun e W' => ∃ u, e = .returned u ∧ Prts W.heap.size W' u (lawL m v 8) ∧ Below W.heap.size W W' := by
  go_enter Tryz.func46, Tryz.ntmps46
  go_wp2_with fail
  have N0 : Hid (Prts W.heap.size (W.alloc (.cells #[] 47)) (.slice (some ⟨W.heap.size, 0, none⟩) 0 0) []) := prts_of (l := []) (Nat.le_refl _) (heap_alloc_new W _) (Nat.le_refl _) (by decide) rfl rfl
  go_loopg [5, 6] 8 (fun gh lv i wr => ∃ k : Nat, k ≤ 8 ∧ gh = 8 - k ∧ i = .int .i64 (k : Int) ∧ Hid (Prts W.heap.size wr lv (lawL m v k)) ∧ Hid (Below W.heap.size W wr))
  case atStart => exact ⟨0, Nat.zero_le _, rfl, rfl, N0.out, bAl _ _⟩
  case round =>
    obtain ⟨k, hk, rfl, rfl, HL, HB⟩ := hrel
    by_cases hlt : k < 8
    · have hki : (k : Int) < 8 := by omega
      have hk0 : (0 : Int) ≤ (k : Int) := by omega
      obtain ⟨l, hl⟩ : ∃ l, l = lawL m v k := ⟨_, rfl⟩
      have hul : l.length ≤ 1000 := by rw [hl]; have := lawL_len m v k; omega
      have hw1 : W.heap.size ≤ wr.heap.size := HB.out.size
      rw [← hl] at HL
      obtain ⟨oa, oc, rfl⟩ := HL.out.slice
      have HT : Hid (lawL m v (k + 1) = if m.testBit k = true then l ++ [lawP v k] else l) := by rw [hl]; rfl
      have hbt := bit_int m k
      clear hl
      cases hb : m.testBit k with
      | false =>
        rw [hb] at hbt HT
        clear hb
        go_wp2_with fail
        go_roundg (8 - (k + 1))
        case measure => omega
        case rel => exact ⟨k + 1, by omega, rfl, by go_num, by rw [HT.out]; exact HL.out, HB.out⟩
      | true =>
        rw [hb] at hbt HT
        clear hb
        go_wp2_with (at_builtin; refine wpList_prt (p := lawP v k) rfl _ _ rfl HL.out hul hw1 rfl rfl ?_; intro v4 w4 H4 S4)
        go_roundg (8 - (k + 1))
        case measure => omega
        case rel => exact ⟨k + 1, by omega, rfl, by go_num, by rw [HT.out]; exact H4.out, HB.out.trans (S4.out.below (B := W.heap.size) (fun y hy => (HL.out.lt y hy).1) hw1)⟩
    · have hki : ¬ ((k : Int) < 8) := by omega
      obtain rfl : k = 8 := by omega
      go_wp2_with fail
      go_ret
      exact ⟨_, rfl, HL.out, HB.out⟩
end Go.Proofs.YtagjmggiaffihaaGreatDoor.So
namespace Go.Proofs.YtagjmggiaffihaaGreatDoor.So
open Go.RowKit Go.Shelf Go.Maps
open Go.Proofs.YtagjmggiaffihaaGreatDoor.At (St bAl cell_blk blk_seen blk_free)
open Go.Proofs.YtagjmggiaffihaaGreatDoor.Sc (Cmp Rsc CmpRow RscRow SmallC SmallQ checkL)
open Go.Proofs.YtagjmggiaffihaaGreatDoor.Rs (okW)
theorem infoCmp : (Tryz.prog.info? 99).map (fun i => (i.zero, i.size, i.bytes)) = some (some (.agg #[.string ⟨#[]⟩, .int .i64 0, .bool false, .int .i64 0, .int .i64 0, .int .i64 0, .int .i64 0]), 7, 64) := by kernel_rfl
def cArr (c : Cmp) : List Value := [.string c.s, .int .i64 c.wd, .bool c.rb, .int .i64 c.d0, .int .i64 c.d1, .int .i64 c.d2, .int .i64 c.d3]
def cCells (l : List Cmp) : List Value := l.flatMap cArr
def Cmps (B : Nat) (W : World) (v : Value) (l : List Cmp) : Prop := W.ownsRow B 99 7 v l.length (cCells l)
theorem cCells_at : ∀ (l : List Cmp) (j : Nat) (c : Cmp), l[j]? = some c → ∀ i, i < 7 → (cCells l)[j * 7 + i]? = (cArr c)[i]? := by
  intro l
  induction l with
  | nil => intro j c h; simp at h
  | cons x l ih =>
    intro j c h i hi
    have e : cCells (x :: l) = cArr x ++ cCells l := by simp [cCells]
    have hx : (cArr x).length = 7 := rfl
    cases j with
    | zero =>
      simp at h
      subst h
      rw [e, Nat.zero_mul, Nat.zero_add, List.getElem?_append_left (by omega)]
    | succ j =>
      rw [e, List.getElem?_append_right (by omega), hx, show (j + 1) * 7 + i - 7 = j * 7 + i by omega]
      exact ih j c (by simpa using h) i hi
theorem Cmps.row {B : Nat} {W : World} {v : Value} {l : List Cmp} (h : Cmps B W v l) : CmpRow W v l := by
  rcases h.2 with ⟨rfl, h0⟩ | ⟨g, cap, cur, rfl, -, -, hc, -, -, -⟩
  · obtain rfl := List.length_eq_zero_iff.1 h0
    exact ⟨none, 0, rfl, Nat.le_refl _, .inl rfl⟩
  · refine ⟨_, cap, rfl, hc, .inr ⟨g, 0, rfl, fun j x hj => ?_⟩⟩
    have hj' := (List.getElem?_eq_some_iff.1 hj).1
    have A := cCells_at l j x hj
    have C : ∀ i, i < 7 → W.cell? ⟨g, j * 7 + i, none⟩ = (cArr x)[i]? := fun i hi => (World.ownsRow.cellAt h (j * 7 + i) (by omega)).trans (A i hi)
    rw [Nat.zero_add]
    exact ⟨C 0 (by decide), C 1 (by decide), C 2 (by decide), C 3 (by decide), C 4 (by decide), C 5 (by decide), C 6 (by decide)⟩
theorem step_cmp {ops : Array Oper} {o : Oper} {a : Act} {K : Act → World → Prop} {Q : Exit → Act → World → Prop} {E : Prop} (hgd : o.guard = none) (s x : Operand)
    (ho : o.op = .call { callee := .builtin .append, args := #[s, x], argTypes := #[22, 22] }) {B sb : Nat} {wc : World} {ov : Value} {l : List Cmp} {c : Cmp} (hown : Cmps B wc ov l) (hl : l.length ≤ 1000) (hB : B ≤ wc.heap.size)
    {cs : Array Value} (hbox : wc.heap[sb]? = some (.cells cs 25 (0, 0))) (hcs : cs[0]? = some ov) (hne : ov.ownBlock ≠ some sb)
    (hs : a.eval s = ov) (hx : a.eval x = .slice (some ⟨wc.heap.size, 0, none⟩) 1 1)
    (h : ∀ g' cap w2, Hid (Cmps B w2 (.slice (some ⟨g', 0, none⟩) (l.length + 1) cap) (l ++ [c]) ∧ w2.heap[sb]? = some (.cells cs 25 (0, 0)) ∧ St (fun x => ov.ownBlock = some x) wc w2) → w2.cell? ⟨sb, 0, none⟩ = some ov → w2.frozen? ⟨sb, 0, none⟩ = false → K (a.put o.dst (.slice (some ⟨g', 0, none⟩) (l.length + 1) cap)) w2) :
    if Region.wanted o (yielded ops a.tmps) = true then Oper.wp Tryz.prog o a (wc.alloc (.cells #[.string c.s, .int .i64 c.wd, .bool c.rb, .int .i64 c.d0, .int .i64 c.d1, .int .i64 c.d2, .int .i64 c.d3] 99)).drew K Q else E := by
  obtain ⟨i0, hi, hz0, hz1, hz2⟩ := info_parts infoCmp
  have hb : Below wc.heap.size wc (wc.alloc (.cells #[.string c.s, .int .i64 c.wd, .bool c.rb, .int .i64 c.d0, .int .i64 c.d1, .int .i64 c.d2, .int .i64 c.d3] 99)).drew := ((Below.refl _ _).alloc (Nat.le_refl _) _).drew
  have ho2 : (wc.alloc (.cells #[.string c.s, .int .i64 c.wd, .bool c.rb, .int .i64 c.d0, .int .i64 c.d1, .int .i64 c.d2, .int .i64 c.d3] 99)).drew.ownsRow B 99 7 ov l.length (cCells l) := World.ownsRow.alloc hown _
  have hz : (wc.alloc (.cells #[.string c.s, .int .i64 c.wd, .bool c.rb, .int .i64 c.d0, .int .i64 c.d1, .int .i64 c.d2, .int .i64 c.d3] 99)).drew.heap.size = wc.heap.size + 1 := by simp
  have hh := heap_alloc_new wc (.cells #[.string c.s, .int .i64 c.wd, .bool c.rb, .int .i64 c.d0, .int .i64 c.d1, .int .i64 c.d2, .int .i64 c.d3] 99)
  refine step_append_lies _ hgd s x 22 ho B 99 i0 (.agg #[.string ⟨#[]⟩, .int .i64 0, .bool false, .int .i64 0, .int .i64 0, .int .i64 0, .int .i64 0]) 7 64 Tryz.underlying22 hi hz0 hz1 hz2 rfl (by decide) ov l.length (cCells l) hs ho2 ⟨wc.heap.size, 0, none⟩ 1 1 (cArr c) hx rfl (fun j u hu => by
    rw [add_at]
    exact cell_blk (W := wc.alloc _) hh (by simpa [cArr] using hu)) (by intro u hu; simp [cArr] at hu; rcases hu with rfl | rfl | rfl | rfl | rfl | rfl | rfl <;> rfl) (by decide) (by unfold maxLen; omega) (by omega) (by omega) (wc.heap.size + 1) hz ?_
  intro g' cap w2 ow hg hat hlt
  have st : St (fun x => ov.ownBlock = some x) wc w2 := (St.of_below hb).trans (St.of_grown (S := fun x => ov.ownBlock = some x) hg fun k e => e) fun _ _ q => q
  have hb2 := st.at hbox hne
  refine h g' cap w2 ⟨?_, hb2, st⟩ (cell_blk hb2 hcs) (blk_free hb2 0)
  show World.ownsRow _ _ _ _ _ _ _
  have e : cCells (l ++ [c]) = cCells l ++ cArr c := by simp [cCells]
  rw [e, List.length_append]
  exact ow
def wideC (k : Nat) : Cmp := ⟨⟨#[97 + k.toUInt8]⟩, 1, (k : Int).tmod 2 == 0, 0, 0, 0, 0⟩
def wideL (k : Nat) : List Cmp := (List.range k).map wideC
theorem wide_ok : checkL (wideL 8) [] = [] := by kernel_rfl
theorem wide_w : okW [1, 1, 1, 1, 1, 1, 1, 1] := ⟨by decide, fun w hw => by simp at hw; subst hw; decide⟩
theorem wide_ws : (wideL 8).map (fun c => c.wd) = [1, 1, 1, 1, 1, 1, 1, 1].map fun (w : Nat) => (w : Int) := by kernel_rfl
set_option maxRecDepth 1000000 in
theorem sub_name (k : Nat) (hk : k < 8) (w : World) : (Instr.slice 9 (.string ⟨#[97, 98, 99, 100, 101, 102, 103, 104]⟩) (some (.int .i64 (k : Int))) (some (.int .i64 (IntKind.i64.wrap ((k : Int) + 1)))) none).run Tryz.prog w = .ok (.string (wideC k).s) w := by
  have hkc : k = 0 ∨ k = 1 ∨ k = 2 ∨ k = 3 ∨ k = 4 ∨ k = 5 ∨ k = 6 ∨ k = 7 := by omega
  rcases hkc with rfl | rfl | rfl | rfl | rfl | rfl | rfl | rfl <;> (show _ = _; first | kernel_rfl | (simp [Instr.slice, wideC, go_sem]; done) | rfl)
end Go.Proofs.YtagjmggiaffihaaGreatDoor.So
namespace Go.Proofs.YtagjmggiaffihaaGreatDoor.So
open Go.RowKit Go.Shelf Go.Maps
open Go.Proofs.YtagjmggiaffihaaGreatDoor.At (St bAl cell_blk blk_seen blk_free)
open Go.Proofs.YtagjmggiaffihaaGreatDoor.Sc (Cmp Rsc CmpRow RscRow SmallC SmallQ checkL)
structure Wi (W w1 : World) (l : List Cmp) (lv : Value) (wr : World) : Prop where
  box : wr.heap[W.heap.size + 1]? = some (.cells #[lv, .slice none 0 0] 25 (0, 0))
  row : Cmps w1.heap.size wr lv l
  st : St (fun k => k = W.heap.size + 1) w1 wr
set_option maxHeartbeats 3200000 in
set_option maxRecDepth 100000 in
theorem wide_any (W : World) : Calls Tryz.prog 45 #[] W fun e W' => ∃ va, e = .returned (.agg #[va, .slice none 0 0]) ∧ CmpRow W' va (wideL 8) ∧ Below W.heap.size W W' := by
  obtain ⟨w1, hw1⟩ : ∃ w1, w1 = (W.alloc (.cells #[.slice none 0 0, .slice none 0 0] 25)).alloc (.cells #[.slice none 0 0, .slice none 0 0] 25) := ⟨_, rfl⟩
  obtain ⟨b1, r1, p1⟩ := Rs.two_blk W #[.slice none 0 0, .slice none 0 0] #[.slice none 0 0, .slice none 0 0] 25 25
  have z1 : w1.heap.size = W.heap.size + 2 := by rw [hw1]; simp
  rw [← hw1] at b1 r1 p1
  have N0 : Hid (Wi W w1 (wideL 0) (.slice none 0 0) w1) := ⟨p1, World.ownsRow_nil _ _ _ _, St.of_below (Below.refl _ _)⟩
  have HW1 := hid hw1
  have B1 := hid b1
  have R1 := hid r1
  clear hw1 b1 r1 p1
  go_enter Tryz.func45, Tryz.ntmps45
  go_upto_region 2 with fail
  rw [← HW1.out]
  go_wp2_with fail
  go_loopg [2] 8 (fun gh i wr => ∃ k : Nat, k ≤ 8 ∧ gh = 8 - k ∧ i = .int .i64 (k : Int) ∧ ∃ lv, Hid (Wi W w1 (wideL k) lv wr))
  case atStart => exact ⟨0, Nat.zero_le _, rfl, rfl, _, N0.out⟩
  case round =>
    obtain ⟨k, hk, rfl, rfl, lv, HN⟩ := hrel
    by_cases hlt : k < 8
    · have hki : (k : Int) < 8 := by omega
      have hk0 : (0 : Int) ≤ (k : Int) := by omega
      obtain ⟨l, hl⟩ : ∃ l, l = wideL k := ⟨_, rfl⟩
      rw [← hl] at HN
      have hl9 : l.length ≤ 1000 := by rw [hl]; simp [wideL]; omega
      obtain ⟨oa, oc, rfl⟩ : ∃ a c, lv = .slice a l.length c := own_slice HN.out.row
      have BOX := hid HN.out.box
      have ROW := hid HN.out.row
      have y0 : wr.cell? ⟨W.heap.size + 1, 0, none⟩ = some (.slice oa l.length oc) := cell_blk BOX.out rfl
      have hne : (Value.slice oa l.length oc).ownBlock ≠ some (W.heap.size + 1) := fun e => by have := (World.ownsRow.lt ROW.out _ e).1; omega
      have hB6 : w1.heap.size ≤ wr.heap.size := HN.out.st.size
      have htn : ¬ (W.heap.size + 1 = wr.heap.size) := by omega
      have htw : W.heap.size + 1 < wr.heap.size := by omega
      have HL := hid hl
      clear hl
      have hsl := sub_name k hlt
      go_wp2_with fail
      go_region_law (refine step_cmp (c := wideC k) rfl _ _ rfl ROW.out hl9 hB6 BOX.out rfl hne rfl rfl ?_; intro g' cap w7 hg hx7 hf7)
      all_goals
        obtain ⟨q1, q2, q3⟩ := hg.out
        have s1 := St.setCell (S := fun k => k = W.heap.size + 1) (a := w7) (p := ⟨W.heap.size + 1, 0, none⟩) (.slice (some ⟨g', 0, none⟩) (l.length + 1) cap) rfl
        have NX : Hid (Wi W w1 (wideL (k + 1)) (.slice (some ⟨g', 0, none⟩) (l.length + 1) cap) (w7.setCell ⟨W.heap.size + 1, 0, none⟩ (.slice (some ⟨g', 0, none⟩) (l.length + 1) cap))) := by
          have e : wideL (k + 1) = l ++ [wideC k] := by rw [HL.out]; unfold wideL; rw [List.range_succ, List.map_append]; rfl
          refine ⟨?_, ?_, ?_⟩
          · have := heap_setCell_same w7 (W.heap.size + 1) 0 _ _ (.slice (some ⟨g', 0, none⟩) (l.length + 1) cap) q2
            simpa using this
          · rw [e]
            exact own_kept q1 s1 fun y hy e => by have := (World.ownsRow.lt q1 y hy).1; omega
          · exact (HN.out.st.trans q3 fun y hy e => by have := (World.ownsRow.lt ROW.out y e).1; omega).trans s1 fun _ _ q => q
        clear hx7 hf7 q1 q2 q3 s1 hg
        go_wp2_with fail
        go_roundg (8 - (k + 1))
        case measure => omega
        case rel => exact ⟨k + 1, by omega, rfl, by go_num, _, NX.out⟩
    · have hki : ¬ ((k : Int) < 8) := by omega
      obtain rfl : k = 8 := by omega
      obtain ⟨L, hL⟩ : ∃ L, L = wideL 8 := ⟨_, rfl⟩
      have hN := HN.out
      rw [← hL] at hN
      have HL := hid hL
      clear hL
      obtain ⟨oa, oc, rfl⟩ : ∃ a c, lv = .slice a L.length c := own_slice hN.row
      have y0 : wr.cell? ⟨W.heap.size + 1, 0, none⟩ = some (.slice oa L.length oc) := cell_blk hN.box rfl
      have y1 : wr.cell? ⟨W.heap.size + 1, 1, none⟩ = some (.slice none 0 0) := cell_blk hN.box rfl
      have r8 := hN.st.at R1.out (by omega)
      have x0 : wr.cell? ⟨W.heap.size, 0, none⟩ = some (.slice none 0 0) := cell_blk r8 rfl
      have x1 : wr.cell? ⟨W.heap.size, 1, none⟩ = some (.slice none 0 0) := cell_blk r8 rfl
      have f0 := blk_free r8 0
      have f1 := blk_free r8 1
      have h1 := heap_setCell_same wr W.heap.size 0 _ _ (.slice oa L.length oc) r8
      have h2 := heap_setCell_same _ W.heap.size 1 _ _ (.slice none 0 0) h1
      have c := fun (w : World) (j : Nat) (v : Value) => St.setCell (S := fun k => k = W.heap.size) (a := w) (p := ⟨W.heap.size, j, none⟩) v rfl
      have s2 := (c wr 0 (.slice oa L.length oc)).trans (c _ 1 (.slice none 0 0)) fun _ _ q => q
      have CR := hid (Cmps.row (own_kept hN.row s2 fun y hy e => by have := (World.ownsRow.lt hN.row y hy).1; omega))
      have BB := hid ((B1.out.trans (hN.st.below (B := W.heap.size) (fun q hq => by omega) (by omega))).trans (s2.below (B := W.heap.size) (fun q hq => by omega) (by have := hN.st.size; omega)))
      have H2 := hid h2
      clear hN h1 h2 c s2 r8
      go_wp2_with fail
      generalize (wr.setCell ⟨W.heap.size, 0, none⟩ (.slice oa L.length oc)).setCell ⟨W.heap.size, 1, none⟩ (.slice none 0 0) = w9 at *
      have d0 : w9.cell? ⟨W.heap.size, 0, none⟩ = some (.slice oa L.length oc) := cell_blk H2.out rfl
      have d1 : w9.cell? ⟨W.heap.size, 1, none⟩ = some (.slice none 0 0) := cell_blk H2.out rfl
      exact bodyPost_ret (v := .agg #[.slice oa L.length oc, .slice none 0 0]) (by simp [results, Tryz.results45, go_sem, d0, d1]) rfl ⟨_, rfl, by rw [← HL.out]; exact CR.out, BB.out⟩
end Go.Proofs.YtagjmggiaffihaaGreatDoor.So
