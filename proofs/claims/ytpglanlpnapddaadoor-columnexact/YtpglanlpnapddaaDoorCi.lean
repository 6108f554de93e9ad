/- Take, of a row that there is. -/
import Derived.Test.YtpglanlpnapddaaDoorCh
namespace Go.Proofs.YtpglanlpnapddaaDoor
open Go.RowKit Go.Shelf Go.Maps
theorem setRow_st (W : World) (g : Nat) (cs : Array Value) : St (fun k => k = g) W (W.setRow g cs) :=
  ⟨rfl, rfl, rfl, by simp [World.setRow], fun _ _ hn => setRow_other _ _ _ _ hn⟩
theorem drewN_st (S : Nat → Prop) (W : World) (m : Nat) : St S W (W.drewN m) := St.of_below (drewN_below W m)
theorem map_st {W W' : World} {mb : Nat} (h : W.drew.mapTurned W' mb) : St (fun k => k = mb) W W' := by
  have s' := St.of_grown (S := fun x => x = mb) h.grown fun k e => by simpa using e.symm
  exact ⟨s'.os, s'.tape, s'.output, s'.size, s'.block⟩
theorem map_st' {W W' : World} {mb : Nat} (h : W.mapTurned W' mb) : St (fun k => k = mb) W W' :=
  St.of_grown (S := fun x => x = mb) h.grown fun k e => by simpa using e.symm
theorem St.map {S : Nat → Prop} {W W' : World} (hs : St S W W') {mb n : Nat} {D : DataW Unit} (h : W.ownsMap Tryd.prog 3 (plainElem Tryd.prog 3) mb n D) (hn : ¬ S mb) : W'.ownsMap Tryd.prog 3 (plainElem Tryd.prog 3) mb n D := by
  have hlt := h.lt
  obtain ⟨es, cl, hb, q⟩ := h
  exact ⟨es, cl, (hs.block mb hlt hn).trans hb, q⟩
theorem wrap_mid {n : Int} (h0 : -1000000 ≤ n) (h1 : n ≤ 1000000) : IntKind.i64.wrap n = n := by
  rw [IntKind.wrap_i64]; omega
/-- The rows behind Take. -/
def CS.taken (s : CS) (n : Nat) (pl : Pt) : CS := ⟨s.comp, s.w, (s.rows.set n pl).dropLast⟩
/-- What Take leaves. -/
theorem Cl.took {B : Nat} {W W' : World} {rb mb g cap : Nat} {cur : Array Value} {s : CS} (h : Cl B W rb mb (.slice (some ⟨g, 0, none⟩) (s.rows.length * s.w) cap) s) (n : Nat) (hn : n < s.rows.length) (pl : Pt) (hpl : s.rows[s.rows.length - 1]? = some pl)
    (hcl : s.rows.length * s.w ≤ cap) (hcm : cap ≤ maxLen) (hcs : cur.size = cap) (hfl : cur.toList.take (s.rows.length * s.w) = flat s.w s.rows) (hBg : B ≤ g)
    (hbox : W'.heap[rb]? = some (.cells #[.int .i64 s.comp, .int .i64 (s.w : Int), .slice (some ⟨g, 0, none⟩) ((s.rows.length - 1) * s.w) cap, .map (some mb)] 68 (0, 0)))
    (hg : W'.heap[g]? = some (.cells (cur.toList.take (n * s.w) ++ pl.row s.w ++ cur.toList.drop (n * s.w + (pl.row s.w).length)).toArray 3 (0, 0)))
    (D : DataW Unit) (hD : W'.ownsMap Tryd.prog 3 (plainElem Tryd.prog 3) mb (s.rows.length + 1) D) (hH : Holds D (s.rows.set n pl).dropLast) :
    Cl B W' rb mb (.slice (some ⟨g, 0, none⟩) ((s.rows.length - 1) * s.w) cap) (s.taken n pl) := by
  have hw4 := h.ok.w4
  have hnw : n * s.w + s.w ≤ s.rows.length * s.w := by rw [← Nat.succ_mul]; exact Nat.mul_le_mul_right _ hn
  have hl1 : (s.rows.length - 1) * s.w ≤ s.rows.length * s.w := Nat.mul_le_mul_right _ (by omega)
  have hdl : ((s.rows.set n pl).dropLast).length = s.rows.length - 1 := by simp
  have hrl := pl.row_len hw4
  refine ⟨hbox, ?_, ⟨D, own_size hD hH.2, hH⟩, ⟨h.ok.w0, hw4, ?_⟩, ?_, h.low⟩
  · show World.ownsRow _ _ _ _ _ (((s.rows.set n pl).dropLast).length * s.w) (flat s.w (s.rows.set n pl).dropLast)
    rw [hdl]
    refine ⟨by rw [flat_len hw4, hdl]; omega, .inr ⟨g, cap, _, rfl, hBg, hg, by omega, hcm, ?_, ?_⟩⟩
    · simp [hrl]; omega
    · rw [Nat.mul_one]
      have e := splice_take hw4 (cur := cur.toList) hfl (by simp; omega) hn pl
      have e2 := congrArg (List.take ((s.rows.length - 1) * s.w)) e
      rw [List.take_take, Nat.min_eq_left hl1, flat_take hw4 _ _ (by simp)] at e2
      rw [List.toList_toArray, hrl, e2, List.dropLast_eq_take]
      simp
  · intro q hq
    have hq' := List.dropLast_subset _ hq
    rcases List.mem_or_eq_of_mem_set hq' with h1 | h1
    · exact h.ok.fit q h1
    · subst h1; exact h.ok.fit _ (List.mem_of_getElem? hpl)
  · show ((s.rows.set n pl).dropLast).length ≤ 1000
    rw [hdl]; have := h.small; omega
set_option maxHeartbeats 3200000 in
set_option maxRecDepth 100000 in
theorem take_ok {B : Nat} {W : World} {rb mb : Nat} {sv : Value} {s : CS} (h : Cl B W rb mb sv s) (n : Nat) (p : Pt) (hp : s.rows[n]? = some p) (pl : Pt) (hpl : s.rows[s.rows.length - 1]? = some pl) :
    Calls Tryd.prog 17 #[.pointer (some ⟨rb, 0, none⟩), .int .i64 (n : Int)] W fun e W' => e = .returned (.tuple #[p.val s.comp, .nilIface]) ∧ ∃ sv', Cl B W' rb mb sv' (s.taken n pl) ∧ sv'.ownBlock = sv.ownBlock ∧ St (Ft rb mb sv) W W' := by
  have hnl : n < s.rows.length := (List.getElem?_eq_some_iff.1 hp).1
  have hsm := h.small
  obtain ⟨g, cap, cur, hsv, hBg, hg, hLc, hcm, hcs, hfl⟩ := h.cells (by omega)
  subst hsv
  have hw0 := h.ok.w0
  have hw4 := h.ok.w4
  have H := hid h
  have HP := hid hp
  have HPL := hid hpl
  have BA : Hid (Below W.heap.size W (W.alloc (.cells #[.int .i64 0, .int .i64 0, .int .i64 0, .int .i64 0, .int .i64 0, .int .i64 0] 34))) := bAl _ _
  have RW := hid (row_some (h.later BA.out) n p hp)
  have hgW : g < W.heap.size := (h.lt g (.inr (.inr rfl))).2
  have hrW : rb < W.heap.size := (h.lt rb (.inl rfl)).2
  have hmW : mb < W.heap.size := (h.lt mb (.inr (.inl rfl))).2
  have HG := hid hg
  have HFL := hid hfl
  obtain ⟨last, hlast⟩ : ∃ last, last = s.rows.length - 1 := ⟨_, rfl⟩
  have hli : ((s.rows.length : Int) - 1) = (last : Int) := by omega
  have HLI := hid hli
  have HLA := hid hlast
  unfold Pt.val at RW ⊢
  clear h hp hpl hg hfl hli hlast
  go_enter Tryd.func17, Tryd.ntmps17
  go_wp2_with fail
  refine RW.out.mono ?_
  rintro e w1 ⟨rfl, hb⟩
  have R1 : Hid (w1.heap[W.heap.size]? = some (.cells (Pt.zero.arr 0) 34 (0, 0))) := blk_seen hb (Nat.le_refl _) (heap_alloc_new W (.cells #[.int .i64 0, .int .i64 0, .int .i64 0, .int .i64 0, .int .i64 0, .int .i64 0] 34))
  have B1 := hid (BA.out.trans (hb.mono BA.out.size))
  have hz1 : W.heap.size < w1.heap.size := by have := hb.size; simp at this; omega
  clear hb RW
  obtain ⟨w2, hw2⟩ : ∃ w2, w2 = w1.alloc (.cells #[.int .i64 s.comp, .int .i64 p.a, .int .i64 p.b, .int .i64 p.c, .int .i64 p.d, .int .i64 p.t] 34) := ⟨_, rfl⟩
  have b12 : Below w1.heap.size w1 w2 := by rw [hw2]; exact bAl _ _
  have B2 := hid (B1.out.trans (b12.mono B1.out.size))
  have R2 := hid (blk_seen b12 (Nat.le_refl _) R1.out)
  have O2 : Hid (w2.heap[w1.heap.size]? = some (.cells (p.arr s.comp) 34 (0, 0))) := by rw [hw2]; exact heap_alloc_new w1 _
  have C2 := hid (H.out.later B2.out)
  have G2 := hid (blk_seen B2.out (Nat.le_refl _) HG.out)
  have LN := hid (len_any C2.out)
  have HW2 := hid hw2
  clear b12 hw2
  go_wp2_with fail
  rw [← HW2.out]
  refine LN.out.mono ?_
  rintro e w3 ⟨rfl, rfl⟩
  have hsl : (s.rows.length : Int) ≤ 1000 := by omega
  clear LN
  have hnw : n * s.w + s.w ≤ s.rows.length * s.w := by rw [← Nat.succ_mul]; exact Nat.mul_le_mul_right _ hnl
  have hlw : last * s.w + s.w ≤ s.rows.length * s.w := by rw [← Nat.succ_mul]; exact Nat.mul_le_mul_right _ (by have := HLA.out; omega)
  have hL4 : s.rows.length * s.w ≤ 4000 := by have := Nat.mul_le_mul hsm hw4; omega
  have hpl' : s.rows[last]? = some pl := by rw [HLA.out]; exact HPL.out
  have CR := hid (fun m k (hk : k ≤ 1000) (hkw : k * s.w + s.w ≤ s.rows.length * s.w) => crow_any (W := w3.drewN m) (seen (drewN_below w3 m) (Nat.le_refl _) C2.out.c1) (seen (drewN_below w3 m) (Nat.le_refl _) C2.out.c2) (n := k) rfl hkw hLc hL4 hw0 hw4 hk)
  obtain ⟨cur', hcur'⟩ : ∃ cur', cur' = (cur.toList.take (n * s.w) ++ pl.row s.w ++ cur.toList.drop (n * s.w + (pl.row s.w).length)).toArray := ⟨_, rfl⟩
  have CP : ∀ m ty, (Builtin.copy_ #[55, 55] ty #[.slice (some ⟨g, n * s.w, none⟩) s.w (cap - n * s.w), .slice (some ⟨g, last * s.w, none⟩) s.w (cap - last * s.w)]).run Tryd.prog (w3.drewN m) = .ok (.int .i64 (s.w : Int)) ((w3.drewN m).setRow g cur') := by
    intro m ty
    rw [hcur']
    have hh := run_copy_row (P := Tryd.prog) (w3.drewN m) 55 55 ty 3 g (n * s.w) s.w (cap - n * s.w) ⟨g, last * s.w, none⟩ s.w (cap - last * s.w) cur 3 (pl.row s.w) Tryd.underlying55 infoInt G2.out (by rw [pl.row_len hw4]; exact (Nat.min_self _).symm) (row_cells (W := w3.drewN m) G2.out HFL.out hw4 hpl') (by rw [pl.row_len hw4]; omega) (row_one _ _)
    rw [hh, pl.row_len hw4]
    rfl
  have HPL' := hid hpl'
  have HCU := hid hcur'
  clear hpl' hcur'
  go_wp2_with fail
  rw [HLI.out]
  refine (CR.out 0 n (by omega) hnw).mono ?_
  rintro e w4 ⟨rfl, m1, rfl⟩
  rw [World.drewN_drewN]
  go_wp2_with fail
  refine (CR.out m1 last (by have := HLA.out; omega) hlw).mono ?_
  rintro e w4 ⟨rfl, m2, rfl⟩
  rw [World.drewN_drewN]
  go_wp2_with fail
  obtain ⟨w4, hw4'⟩ : ∃ w4, w4 = (w3.drewN (m1 + m2)).setRow g cur' := ⟨_, rfl⟩
  rw [← hw4']
  have ngr : g ≠ rb := (C2.out.ne_f g rfl).1
  have ngm : g ≠ mb := (C2.out.ne_f g rfl).2
  have nrm : rb ≠ mb := C2.out.ne_rm
  have s34 : St (fun k => k = g) w3 w4 := by rw [hw4']; exact (drewN_st (fun k => k = g) w3 _).trans (setRow_st _ g _) fun _ _ q => q
  have G4 : Hid (w4.heap[g]? = some (.cells cur' 3 (0, 0))) := by rw [hw4']; exact setRow_heap (w3.drewN (m1 + m2)) g cur _ 3 _ G2.out
  have X4 := hid (s34.at C2.out.box (fun e => ngr e.symm))
  have R4 := hid (s34.at R2.out (by omega))
  have O4 := hid (s34.at O2.out (by omega))
  obtain ⟨D, hD, hH⟩ := C2.out.map
  have hD4 := s34.map hD (fun e => ngm e.symm)
  have hIn : I64 (n : Int) := I64_mid (by omega) (by omega)
  have hIl : I64 (last : Int) := I64_mid (by omega) (by have := HLA.out; omega)
  have hpt : I64 pl.t := (H.out.ok.fit pl (List.mem_of_getElem? HPL.out)).2
  have tl : tickAt s.rows (last : Int) = pl.t := by unfold tickAt; rw [rowAt_nat, HPL'.out]
  have LK4 := look_one (W := w4.drew) hD4 hH (last : Int) hIl
  rw [tl] at LK4
  obtain ⟨w5, hmu, hD5, ht5⟩ := hD4.drew.store keyed3 Tryd.underlying66 (by unfold maxLen; omega) (key_int (n : Int) hIn) (plainElem_int Tryd.underlying3 hpt)
  have hH5 := hH.set (hD.tidy keyed3) hnl pl hIn
  have tl5 : tickAt (s.rows.set n pl) (last : Int) = pl.t := by
    unfold tickAt
    rw [rowAt_set _ _ _ hnl]
    by_cases e : (last : Int) = (n : Int)
    · rw [if_pos e]
    · rw [if_neg e, rowAt_nat, HPL'.out]
  have LK5 := look_one hD5 hH5 (last : Int) hIl
  rw [tl5] at LK5
  have s45 := map_st ht5
  have X5 := hid (s45.at X4.out nrm)
  have G5 := hid (s45.at G4.out ngm)
  have hz2 : w1.heap.size < w3.heap.size := (Array.getElem?_eq_some_iff.1 O2.out).1
  have R5 := hid (s45.at R4.out (by omega))
  have O5 := hid (s45.at O4.out (by omega))
  have S35 : Hid (St (fun k => k = g ∨ k = mb) w3 w5) := (St.trans (S := fun k => k = g ∨ k = mb) ⟨s34.os, s34.tape, s34.output, s34.size, fun k hk hn => s34.block k hk fun e => hn (.inl e)⟩ s45 fun _ _ q => .inr q)
  have HD5 := hid hD5
  have HH5 := hid hH5
  have K4 : Hid (w4.drew.cell? ⟨rb, 3, none⟩ = some (.map (some mb)) ∧ (Instr.lookup 66 (.map (some mb)) (.int .i64 (last : Int)) false).run Tryd.prog w4.drew = .ok (.int .i64 pl.t) w4.drew) := ⟨cell_blk (W := w4) X4.out rfl, LK4⟩
  have K5 : Hid (w5.cell? ⟨rb, 3, none⟩ = some (.map (some mb)) ∧ (Instr.lookup 66 (.map (some mb)) (.int .i64 (last : Int)) false).run Tryd.prog w5 = .ok (.int .i64 pl.t) w5) := ⟨cell_blk X5.out rfl, LK5⟩
  clear hD hH hD4 LK4 LK5 hD5 hH5 ht5 s34 s45 tl tl5 hw4' CR CP X4 R4 O4 G4
  go_region_held3 (fun W' => W'.cell? ⟨rb, 3, none⟩ = some (.map (some mb)) ∧ (Instr.lookup 66 (.map (some mb)) (.int .i64 (last : Int)) false).run Tryd.prog W' = .ok (.int .i64 pl.t) W') (first | exact K4.out | exact K5.out) (fail)
  clear hmu K4 K5
  obtain ⟨o2, ho2⟩ : ∃ o2, last * s.w = o2 := ⟨_, rfl⟩
  have e1 : (last : Int) * (s.w : Int) = (o2 : Int) := by rw [← ho2]; simp
  have q1 := cell_blk X5.out (j := 1) rfl
  have q2 := cell_blk X5.out (j := 2) rfl
  have f2 := blk_free X5.out 2
  have bo : (o2 : Int) ≤ (cap : Int) := by omega
  have bo4 : (o2 : Int) ≤ 4000 := by omega
  have wr : IntKind.i64.wrap (o2 : Int) = (o2 : Int) := wrap_mid (by omega) (by omega)
  have HO2 := hid ho2
  clear ho2
  go_wp2_with fail
  go_region_law (fail)
  all_goals
    obtain ⟨w6, hw6⟩ : ∃ w6, w6 = (w5.setCell ⟨rb, 2, none⟩ (.slice (some ⟨g, 0, none⟩) o2 cap)).drew := ⟨_, rfl⟩
    rw [← hw6]
    have s56 : St (fun k => k = rb) w5 w6 := by
      rw [hw6]
      have s' := St.setCell (S := fun k => k = rb) (a := w5) (p := ⟨rb, 2, none⟩) (.slice (some ⟨g, 0, none⟩) o2 cap) rfl
      exact ⟨s'.os, s'.tape, s'.output, s'.size, s'.block⟩
    have X6 : Hid (w6.heap[rb]? = some (.cells #[.int .i64 s.comp, .int .i64 (s.w : Int), .slice (some ⟨g, 0, none⟩) o2 cap, .map (some mb)] 68 (0, 0))) := by rw [hw6]; exact heap_setCell_same w5 rb 2 _ 68 _ X5.out
    have G6 := hid (s56.at G5.out ngr)
    have R6 := hid (s56.at R5.out (by omega))
    have O6 := hid (s56.at O5.out (by omega))
    have D6 := s56.map HD5.out (fun e => nrm e.symm)
    have c3 := cell_blk X6.out (j := 3) rfl
    obtain ⟨w7, hdel, hD7, ht7⟩ := D6.drop keyed3 Tryd.underlying66 (key_int (last : Int) hIl) 0
    have s67 := map_st' ht7
    have X7 := hid (s67.at X6.out nrm)
    have G7 := hid (s67.at G6.out ngm)
    have R7 := hid (s67.at R6.out (by omega))
    have O7 := hid (s67.at O6.out (by omega))
    have hsl' : (s.rows.set n pl).length = s.rows.length := by simp
    have hH7 := HH5.out.drop (HD5.out.tidy keyed3) (by omega) (by rw [hsl', HLI.out]; exact hIl)
    rw [hsl', HLI.out] at hH7
    have HD7 := hid hD7
    have HH7 := hid hH7
    have S37 : Hid (St (Ft rb mb (.slice (some ⟨g, 0, none⟩) (s.rows.length * s.w) cap)) w3 w7) := by
      refine (St.trans (S := Ft rb mb (.slice (some ⟨g, 0, none⟩) (s.rows.length * s.w) cap)) ⟨S35.out.os, S35.out.tape, S35.out.output, S35.out.size, fun k hk hn => S35.out.block k hk fun e => hn (e.elim (fun e => .inr (.inr (by rw [e]; rfl))) (fun e => .inr (.inl e)))⟩ s56 fun _ _ q => .inl q).trans s67 fun _ _ q => .inr (.inl q)
    clear D6 ht7 s56 s67 hD7 hH7 hw6 q1 q2 f2
    obtain ⟨d0, d1, d2, d3, d4, d5, -, -, -, -, -, -⟩ := lies O7.out
    obtain ⟨x0, x1, x2, x3, x4, x5, f0, f1, f2, f3, f4, f5⟩ := lies R7.out
    go_wp2_with fail
    have PB := put6_blk R7.out rfl s.comp p
    have PS := put6_st w7 W.heap.size s.comp p
    unfold put6 at PB PS
    obtain ⟨d0, d1, d2, d3, d4, d5, -, -, -, -, -, -⟩ := lies PB
    generalize (((((w7.setCell ⟨W.heap.size, 0, none⟩ (.int .i64 s.comp)).setCell ⟨W.heap.size, 1, none⟩ (.int .i64 p.a)).setCell ⟨W.heap.size, 2, none⟩ (.int .i64 p.b)).setCell ⟨W.heap.size, 3, none⟩ (.int .i64 p.c)).setCell ⟨W.heap.size, 4, none⟩ (.int .i64 p.d)).setCell ⟨W.heap.size, 5, none⟩ (.int .i64 p.t) = w8 at *
    have X8 := PS.at X7.out (by omega)
    have G8 := PS.at G7.out (by omega)
    have D8 := PS.map HD7.out (by omega)
    rw [HCU.out] at G8
    rw [← HO2.out, HLA.out] at X8
    have FN := H.out.took n hnl pl HPL.out hLc hcm hcs HFL.out hBg X8 G8 _ D8 HH7.out
    have SF : St (Ft rb mb (.slice (some ⟨g, 0, none⟩) (s.rows.length * s.w) cap)) W w8 := ((St.of_below B2.out).trans S37.out fun _ _ q => q).trans PS fun k hk q => by omega
    exact bodyPost_ret (v := .tuple #[.agg #[.int .i64 s.comp, .int .i64 p.a, .int .i64 p.b, .int .i64 p.c, .int .i64 p.d, .int .i64 p.t], .nilIface]) (by simp [results, Tryd.results17, go_sem, d0, d1, d2, d3, d4, d5]) rfl ⟨rfl, _, FN, rfl, SF⟩
end Go.Proofs.YtpglanlpnapddaaDoor
