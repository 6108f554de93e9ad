/- RollExact: the walk. -/
import Derived.Test.YtdpoojopipcffaaDoorTe
namespace Go.Proofs.YtdpoojopipcffaaDoor
open Go.RowKit Go.Shelf Go.Maps
set_option maxHeartbeats 1600000 in
set_option maxRecDepth 100000 in
theorem exact_low (w : World) (Ad : Nat → Addr) (hE : Env w Ad) (pl : Int) (hpl : pl < 0) (v : Value) (cl : List ActI) (hA : ActRow w v cl) (ei eg : Int) :
    Calls Tryd.prog 3 #[.int .i64 pl, v, .agg #[.int .i64 ei, .int .i64 eg]] w fun e w' => e = .returned (.bool true) ∧ Below w.heap.size w w' := by
  obtain ⟨a, c, rfl, -, -⟩ := hA
  have B0 := hid (bAl w (.cells #[.int .i64 ei, .int .i64 eg] 24))
  have E0 := hid (hE.four.later B0.out)
  have AW := hid (awake_any _ Ad E0.out)
  clear hE
  go_enter Tryd.func3, Tryd.ntmps3
  go_wp2_with fail
  refine AW.out.mono ?_
  rintro e w1 ⟨rfl, b1⟩
  have E1 := hid (E0.out.later b1)
  have B1 := hid (B0.out.trans (b1.mono B0.out.size))
  have NC := hid (new_low Ad w1 E1.out pl hpl)
  clear AW b1
  go_wp2_with fail
  refine NC.out.mono ?_
  rintro e w2 ⟨v2, rfl, hv, b2⟩
  have E2 := hid (E1.out.later b2)
  have B2 := hid (B1.out.trans (b2.mono B1.out.size))
  have RN := hid (rnew_low w2 pl hpl)
  have IC := hid (is_err Ad E2.out hv (p := 1) (k := 1) (by decide) (by decide))
  obtain ⟨t2, q2, rfl⟩ := hv.shape
  have e1 := E2.out.c1
  clear NC b2 hv
  go_wp2_with fail
  refine RN.out.mono ?_
  rintro e w3 ⟨rfl, rfl⟩
  clear RN
  go_wp2_with fail
  refine IC.out.mono ?_
  rintro e w4 ⟨he, b4⟩
  obtain rfl : e = .returned (.bool true) := he
  have B4 := hid (B2.out.trans (b4.mono B2.out.size))
  clear b4 IC e1
  go_wp2_with fail
  go_ret
  exact ⟨rfl, B4.out⟩
set_option maxHeartbeats 1600000 in
set_option maxRecDepth 100000 in
theorem exact_high (w : World) (Ad : Nat → Addr) (hE : Env w Ad) (pl : Int) (hpl : 64 < pl) (v : Value) (cl : List ActI) (hA : ActRow w v cl) (ei eg : Int) :
    Calls Tryd.prog 3 #[.int .i64 pl, v, .agg #[.int .i64 ei, .int .i64 eg]] w fun e w' => e = .returned (.bool true) ∧ Below w.heap.size w w' := by
  obtain ⟨a, c, rfl, -, -⟩ := hA
  have B0 := hid (bAl w (.cells #[.int .i64 ei, .int .i64 eg] 24))
  have E0 := hid (hE.four.later B0.out)
  have AW := hid (awake_any _ Ad E0.out)
  clear hE
  go_enter Tryd.func3, Tryd.ntmps3
  go_wp2_with fail
  refine AW.out.mono ?_
  rintro e w1 ⟨rfl, b1⟩
  have E1 := hid (E0.out.later b1)
  have B1 := hid (B0.out.trans (b1.mono B0.out.size))
  have NC := hid (new_high Ad w1 E1.out pl hpl)
  clear AW b1
  go_wp2_with fail
  refine NC.out.mono ?_
  rintro e w2 ⟨v2, rfl, hv, b2⟩
  have E2 := hid (E1.out.later b2)
  have B2 := hid (B1.out.trans (b2.mono B1.out.size))
  have RN := hid (rnew_high w2 pl hpl)
  have IC := hid (is_err Ad E2.out hv (p := 1) (k := 1) (by decide) (by decide))
  obtain ⟨t2, q2, rfl⟩ := hv.shape
  have e1 := E2.out.c1
  clear NC b2 hv
  go_wp2_with fail
  refine RN.out.mono ?_
  rintro e w3 ⟨rfl, rfl⟩
  clear RN
  go_wp2_with fail
  refine IC.out.mono ?_
  rintro e w4 ⟨he, b4⟩
  obtain rfl : e = .returned (.bool true) := he
  have B4 := hid (B2.out.trans (b4.mono B2.out.size))
  clear b4 IC e1
  go_wp2_with fail
  go_ret
  exact ⟨rfl, B4.out⟩
theorem wpList_ent0 {ops : Array Oper} {rest : List Oper} {o : Oper} {a : Act} {Q : Exit → Act → World → Prop} (hgd : o.guard = none) (s x : Operand)
    (ho : o.op = .call { callee := .builtin .append, args := #[s, x], argTypes := #[34, 34] }) {B : Nat} {wc : World} {v : Value} {l : List (Nat × Nat)} (hown : Ents B wc v l) (hl : l.length ≤ 1000) (hB : B ≤ wc.heap.size)
    (hs : a.eval s = v) (hx : a.eval x = .slice (some ⟨wc.heap.size, 0, none⟩) 1 1)
    (h : ∀ v' w2, Hid (Ents B w2 v' (l ++ [(0, 0)])) → Hid (St (fun x => v.ownBlock = some x) wc w2) → Hid (v'.ownBlock = v.ownBlock ∨ ∃ x, v'.ownBlock = some x ∧ wc.heap.size ≤ x) → wpList Tryd.prog ops Q rest (a.put o.dst v') w2) :
    wpList Tryd.prog ops Q (o :: rest) a (wc.alloc (.cells #[.int .i64 0, .int .i64 0] 24)) := wpList_ent (k := 0) (g := 0) hgd s x ho hown hl hB hs hx h
theorem num6 : numOf [6] = ((6 : Nat) : Int) := by decide
theorem num17 : numOf [17] = ((17 : Nat) : Int) := by decide
set_option maxHeartbeats 6400000 in
set_option maxRecDepth 100000 in
theorem exact_in (w : World) (Ad : Nat → Addr) (hE : Env w Ad) (n : Nat) (hn : n ≤ 64) (v : Value) (cl : List ActI) (hA : ActRow w v cl) (ei eg : Int) (hei : I64 ei) (heg : I64 eg) :
    Calls Tryd.prog 3 #[.int .i64 (n : Int), v, .agg #[.int .i64 ei, .int .i64 eg]] w fun e w' => e = .returned (.bool true) ∧ Below w.heap.size w w' := by
  have HA := hid hA
  obtain ⟨a, c, rfl, -, -⟩ := hA
  have B0 := hid (bAl w (.cells #[.int .i64 ei, .int .i64 eg] 24))
  have E0 := hid (hE.later B0.out)
  have AW := hid (awake_any _ Ad E0.out.four)
  have hni : (n : Int) ≤ 64 := by omega
  have HW := hid hei
  have HG := hid heg
  clear hE hei heg
  go_enter Tryd.func3, Tryd.ntmps3
  go_wp2_with fail
  refine AW.out.mono ?_
  rintro e w1 ⟨rfl, b1⟩
  have E1 := hid (E0.out.later b1)
  have B1 := hid (B0.out.trans (b1.mono B0.out.size))
  have EB1 := hid (blk_seen b1 (Nat.le_refl _) (heap_alloc_new w (.cells #[.int .i64 ei, .int .i64 eg] 24)))
  have NC := hid (rol_new w1 n hn)
  clear AW b1
  go_wp2_with fail
  refine NC.out.mono ?_
  rintro e w2 ⟨rb, S, rfl, h2, b2⟩
  have R2 := hid h2
  have B2 := hid b2
  have RC := hid (rer_new (B := w1.heap.size) w2 n hn b2.size)
  clear NC b2 h2
  go_wp2_with fail
  refine RC.out.mono ?_
  rintro e w3 ⟨ub, U, rfl, h3, hU3, b3⟩
  have X3 : Hid (Ex w1 rb ub n (.slice (some ⟨w3.heap.size, 0, none⟩) 0 0) [] [] (RS.fresh n) (RS.fresh n) 0 0 S U (w3.alloc (.cells #[] 24))) := by
    have bb := bAl w3 (.cells #[] 24)
    have b13 := B2.out.trans (b3.mono B2.out.size)
    refine ⟨(R2.out.later b3).later bb, h3.later bb, fun x hx q => ?_, ⟨by simp [RS.fresh], by simp [RS.fresh]⟩, World.ownsRow_lit w3 #[] 0 b13.size (Nat.zero_le _) rfl, fun x hx => ⟨fun q => ?_, fun q => ?_⟩, fun p hp => by simp at hp, b13.trans (bb.mono b13.size)⟩
    · have h1 := (R2.out.lt x hx).2; have h4 := hU3 x q; omega
    · have := ((R2.out.later b3).lt x q).2; simp [Value.ownBlock] at hx; omega
    · have := (h3.lt x q).2; simp [Value.ownBlock] at hx; omega
  clear RC h3 hU3 b3 R2 B2
  go_wp2_with fail
  go_loopw [10, 11, 12, 13, 14, 15, 16] (fun gv i _ _ _ _ _ wr => ∃ k : Nat, k ≤ 200 ∧ i = .int .i64 (k : Int) ∧ ∃ (r : RS) (t : Nat) (S U : Nat → Prop) (gl : List (Nat × Nat)), t ≤ k ∧ gl.length ≤ k ∧ Hid (∀ p ∈ gl, p.1 ≤ 1000 ∧ p.2 ≤ 1000) ∧ Hid (Ex w1 rb ub n gv gl [] r r t t S U wr)) (fun _ i _ _ _ _ _ _ => 200 - (intOf i).toNat)
  case atStart => exact ⟨0, by omega, rfl, _, 0, S, U, [], Nat.le_refl _, Nat.le_refl _, by intro p hp; simp at hp, X3.out⟩
  case round =>
    obtain ⟨k, hk, rfl, r, t, S, U, gl, htk, hgk, HS, HX⟩ := hrel
    clear X3
    obtain ⟨ga, gc, rfl⟩ := HX.out.ents.slice
    have hgi : (gl.length : Int) ≤ 200 := by omega
    have BW := hid (B1.out.trans (HX.out.bel.mono B1.out.size))
    by_cases hc : k < cl.length ∧ k < 200
    · obtain ⟨h1, h2⟩ := hc
      have h1i : (k : Int) < (cl.length : Int) := by omega
      have h2i : (k : Int) < 200 := by omega
      obtain ⟨x, hx⟩ := at_lt cl k h1
      obtain ⟨a', c', hv, hw, hl⟩ := HA.out.later BW.out
      have xwf := hw x (List.mem_of_getElem? hx)
      obtain ⟨b, o, rfl, hcl⟩ : ∃ b o, a = some ⟨b, o, none⟩ ∧ ∀ (j : Nat) (x : ActI), cl[j]? = some x → wr.cell? ⟨b, o + j * 4, none⟩ = some (.int .i64 x.kind) ∧ wr.cell? ⟨b, o + j * 4 + 1, none⟩ = some (.int .i64 x.i) ∧ wr.cell? ⟨b, o + j * 4 + 2, none⟩ = some (.int .i64 x.g) ∧ wr.cell? ⟨b, o + j * 4 + 3, none⟩ = some (.int .i64 x.n) := by
        obtain ⟨rfl, rfl⟩ : a = a' ∧ c = c' := by simpa using hv
        rcases hl with h | h
        · rw [h] at h1; simp at h1
        · exact h
      obtain ⟨c0, c1, c2, c3⟩ := hcl k x hx
      have XW := hid xwf
      clear hcl hx hv hw hl xwf
      by_cases hk1 : x.kind = 1
      · rw [hk1] at c0
        have X1 := hid (HX.out.new (.cells #[.int .i64 1, .int .i64 x.i, .int .i64 x.g, .int .i64 x.n] 36))
        clear hk1
        by_cases hf : r.free = []
        · have TF := hid (rol_full Ad X1.out.rol (E1.out.later X1.out.bel).four hf)
          have HF := hid hf
          clear hf
          go_wp2_with fail
          refine TF.out.mono ?_
          rintro e w4 ⟨bf, rfl, -, v4, b4⟩
          have X4 := hid ((X1.out.later b4).new (.cells #[.int .i64 0, .int .i64 0] 24))
          have V4 := hid (v4.later (bAl w4 (.cells #[.int .i64 0, .int .i64 0] 24)))
          have RF := hid (rer_full X4.out.ref HF.out)
          clear b4 TF v4
          go_wp2_with fail
          refine RF.out.mono ?_
          rintro e w5 ⟨rfl, b5⟩
          have X5 := hid ((X4.out.later b5).new (.cells #[.int .i64 0, .int .i64 0] 24))
          have V5 := hid ((V4.out.later b5).later (bAl w5 (.cells #[.int .i64 0, .int .i64 0] 24)))
          have a0 := cell_blk (blk_seen (bAl w5 (.cells #[.int .i64 0, .int .i64 0] 24)) (Nat.le_refl _) (blk_seen b5 (Nat.le_refl _) (heap_alloc_new w4 (.cells #[.int .i64 0, .int .i64 0] 24)))) (j := 0) rfl
          have a1 := cell_blk (blk_seen (bAl w5 (.cells #[.int .i64 0, .int .i64 0] 24)) (Nat.le_refl _) (blk_seen b5 (Nat.le_refl _) (heap_alloc_new w4 (.cells #[.int .i64 0, .int .i64 0] 24)))) (j := 1) rfl
          have h45 : w4.heap.size < w5.heap.size := by have := b5.size; simp at this; omega
          have h45n : ¬ (w4.heap.size = w5.heap.size) := by omega
          have f0 := cell_blk (blk_seen b5 (Nat.le_refl _) (heap_alloc_new w4 (.cells #[.int .i64 0, .int .i64 0] 24))) (j := 0) rfl
          have f1 := cell_blk (blk_seen b5 (Nat.le_refl _) (heap_alloc_new w4 (.cells #[.int .i64 0, .int .i64 0] 24))) (j := 1) rfl
          have heq := neq_ent 0 0 0 0 (I64_small (by omega) (by omega)) (I64_small (by omega) (by omega)) (I64_small (by omega) (by omega)) (I64_small (by omega) (by omega))
          have NC : Hid (Calls Tryd.prog 12 #[.iface 66 (.pointer (some ⟨bf, 0, none⟩))] (w5.alloc (.cells #[.int .i64 0, .int .i64 0] 24)) fun e w' => e = .returned (.int .i64 6) ∧ Below (w5.alloc (.cells #[.int .i64 0, .int .i64 0] 24)).heap.size (w5.alloc (.cells #[.int .i64 0, .int .i64 0] 24)) w') := num_err (E1.out.later X5.out.bel) V5.out num6
          clear b5 RF a0 a1
          go_wp2_with fail
          refine NC.out.mono ?_
          rintro e w6 ⟨rfl, b6⟩
          have X6 := hid (X5.out.later b6)
          have g0 := cell_blk (X6.out.at (b := w5.heap.size) (List.mem_cons_self ..)) (j := 0) rfl
          have g1 := cell_blk (X6.out.at (b := w5.heap.size) (List.mem_cons_self ..)) (j := 1) rfl
          have hw6 : w1.heap.size ≤ w6.heap.size := X6.out.bel.size
          have hg1 : gl.length ≤ 1000 := by omega
          have HS' : Hid (∀ p ∈ gl ++ [(0, 0)], p.1 ≤ 1000 ∧ p.2 ≤ 1000) := by
            intro p hp
            rcases List.mem_append.1 hp with hp | hp
            · exact HS.out p hp
            · simp at hp; subst hp; exact ⟨by decide, by decide⟩
          clear NC b6 f0 f1 heq
          go_wp2_with (at_builtin; refine wpList_ent0 rfl _ _ rfl X6.out.ents hg1 hw6 rfl rfl ?_; intro gv' w7 ho7 hst7 hat7)
          exact ⟨⟨k + 1, by omega, by go_num, r, t, S, U, gl ++ [(0, 0)], by omega, by simp; omega, HS'.out, (X6.out.ent ho7.out hst7.out hat7.out).fewer (by simp)⟩, by simp [intOf]; omega⟩
        · obtain ⟨f, i, hf⟩ := free_split hf
          have TS := hid (rol_take X1.out.rol hf (by omega))
          have hi : i < n := by have := HX.out.rol.ok.2 i (by rw [hf]; simp); have := HX.out.len.1; omega
          have hgl := RS.gen_le HX.out.rol (show i < r.gens.length by have := HX.out.len.1; omega)
          have LN : Hid ((r.took i).gens.length = n) := by show _ = _; rw [RS.took_len]; exact HX.out.len.1
          have RT := hid (fun W (h : Rer w1.heap.size W ub t r U) => rer_take h hf (by omega))
          obtain ⟨g, hg⟩ : ∃ g, g = r.gens.getD i 0 := ⟨_, rfl⟩
          rw [← hg] at TS hgl RT
          have hgi2 : (g : Int) ≤ 1000 := by omega
          have hii : (i : Int) ≤ 64 := by omega
          have J1 : I64 (i : Int) := I64_small (by omega) (by omega)
          have J2 : I64 ((g : Int) + 1) := I64_small (by omega) (by omega)
          have heq := neq_ent (i : Int) ((g : Int) + 1) (i : Int) ((g : Int) + 1) J1 J2 J1 J2
          rw [decide_eq_true ⟨rfl, rfl⟩] at heq
          simp only [Bool.not_true] at heq
          clear hf hg J1 J2
          go_wp2_with fail
          refine TS.out.mono ?_
          rintro e w4 ⟨rfl, h4, s4⟩
          have X4 := hid ((X1.out.roll s4 h4 (fun x q => .inl q) LN.out).new (.cells #[.int .i64 (i : Int), .int .i64 ((g : Int) + 1)] 24))
          have RTC := hid (RT.out _ X4.out.ref)
          clear h4 s4 TS RT
          go_wp2_with fail
          refine RTC.out.mono ?_
          rintro e w5 ⟨rfl, h5, s5⟩
          have X5' := hid (X4.out.reff s5 h5 (fun x q => .inl q) LN.out)
          have X5 := hid (X5'.out.new (.cells #[.int .i64 (i : Int), .int .i64 ((g : Int) + 1)] 24))
          have f0 := cell_blk (X5'.out.at (b := w4.heap.size) (List.mem_cons_self ..)) (j := 0) rfl
          have f1 := cell_blk (X5'.out.at (b := w4.heap.size) (List.mem_cons_self ..)) (j := 1) rfl
          have h45 : w4.heap.size < w5.heap.size := X5'.out.klt (b := w4.heap.size) (List.mem_cons_self ..)
          have h45n : ¬ (w4.heap.size = w5.heap.size) := by omega
          have NC := hid (number_nil (w5.alloc (.cells #[.int .i64 (i : Int), .int .i64 ((g : Int) + 1)] 24)))
          clear h5 s5 RTC
          go_wp2_with fail
          refine NC.out.mono ?_
          rintro e w6 ⟨rfl, rfl⟩
          have hw6 : w1.heap.size ≤ w5.heap.size + 1 := by have := X5.out.bel.size; simpa using this
          have hg1 : gl.length ≤ 1000 := by omega
          have EN : Hid (Ents w1.heap.size (w5.alloc (.cells #[.int .i64 (i : Int), .int .i64 ((g : Int) + 1)] 24)) (.slice ga gl.length gc) gl) := X5.out.ents
          have hw6' : w1.heap.size ≤ (w5.alloc (.cells #[.int .i64 (i : Int), .int .i64 ((g : Int) + 1)] 24)).heap.size := X5.out.bel.size
          have HS' : Hid (∀ p ∈ gl ++ [(i, g + 1)], p.1 ≤ 1000 ∧ p.2 ≤ 1000) := by
            intro p hp
            rcases List.mem_append.1 hp with hp | hp
            · exact HS.out p hp
            · simp at hp; subst hp; exact ⟨by omega, by omega⟩
          clear NC f0 f1 heq
          obtain ⟨w6, hw66⟩ : ∃ w6, w6 = w5.alloc (.cells #[.int .i64 (i : Int), .int .i64 ((g : Int) + 1)] 24) := ⟨_, rfl⟩
          rw [← hw66] at X5 EN hw6' ⊢
          have g0 := cell_blk (X5.out.at (b := w5.heap.size) (List.mem_cons_self ..)) (j := 0) rfl
          have g1 := cell_blk (X5.out.at (b := w5.heap.size) (List.mem_cons_self ..)) (j := 1) rfl
          clear hw66
          go_wp2_with (at_builtin; refine wpList_ent rfl _ _ rfl (g := g + 1) EN.out hg1 hw6' rfl rfl ?_; intro gv' w7 ho7 hst7 hat7)
          exact ⟨⟨k + 1, by omega, by go_num, r.took i, t + 1, S, U, gl ++ [(i, g + 1)], by omega, by simp; omega, HS'.out, (X5.out.ent ho7.out hst7.out hat7.out).fewer (by simp)⟩, by simp [intOf]; omega⟩
      · have q1 : (x.kind == 1) = false := by simp [hk1]
        clear hk1
        by_cases hk3 : x.kind = 3
        · have q3 : (x.kind == 3) = true := by simp [hk3]
          clear hk3
          by_cases h0 : 0 < gl.length
          · have h0i : (0 : Int) < (gl.length : Int) := by omega
            obtain ⟨gg, rfl, -, -⟩ := HX.out.ents.some h0
            obtain ⟨u', j, hj, hu', hr'⟩ := rem_at x.n gl.length h0
            obtain ⟨p, hp⟩ := at_lt gl j hj
            have hji : (j : Int) < (gl.length : Int) := by omega
            have hps := HS.out p (List.mem_of_getElem? hp)
            have I1 : Hid (I64 (p.1 : Int)) := I64_small (by omega) (by omega)
            have I2 : Hid (I64 (p.2 : Int)) := I64_small (by omega) (by omega)
            obtain ⟨d0, d1⟩ := HX.out.ents.cell hp
            have hgw : gg < wr.heap.size := World.block_lt_of_cell? wr _ d0
            have hgn : ¬ (gg = wr.heap.size) := by omega
            clear hp hps
            have XE := hid (HX.out.new (.cells #[.int .i64 x.kind, .int .i64 (p.1 : Int), .int .i64 (p.2 : Int), .int .i64 x.n] 36))
            have XD : Ex w1 rb ub n (.slice (some ⟨gg, 0, none⟩) gl.length gc) gl [(wr.heap.size, (.cells #[.int .i64 x.kind, .int .i64 (p.1 : Int), .int .i64 (p.2 : Int), .int .i64 x.n] 36))] r r t t S U (wr.alloc (.cells #[.int .i64 x.kind, .int .i64 (p.1 : Int), .int .i64 (p.2 : Int), .int .i64 x.n] 36)).drew := XE.out.later (Below.refl _ _).drew
            have KX : Hid (∀ r1 r2 S' U' W', Ex w1 rb ub n (.slice (some ⟨gg, 0, none⟩) gl.length gc) gl [(wr.heap.size, (.cells #[.int .i64 x.kind, .int .i64 (p.1 : Int), .int .i64 (p.2 : Int), .int .i64 x.n] 36))] r1 r2 t t S' U' W' → W'.cell? ⟨wr.heap.size, 1, none⟩ = some (.int .i64 (p.1 : Int)) ∧ W'.cell? ⟨wr.heap.size, 2, none⟩ = some (.int .i64 (p.2 : Int))) := fun r1 r2 S' U' W' h =>
              ⟨cell_blk (h.at (List.mem_cons_self ..)) rfl, cell_blk (h.at (List.mem_cons_self ..)) rfl⟩
            by_cases ha : r.aliveB (p.1 : Int) (p.2 : Int) = true
            · obtain ⟨m, hm⟩ : ∃ m : Nat, (p.1 : Int) = (m : Int) := Int.eq_ofNat_of_zero_le ((RS.aliveB_iff _ _ _).1 ha).1
              have C13 : Hid (Calls Tryd.prog 13 #[.pointer (some ⟨rb, 0, none⟩), .agg #[.int .i64 (p.1 : Int), .int .i64 (p.2 : Int)]] (wr.alloc (.cells #[.int .i64 x.kind, .int .i64 (p.1 : Int), .int .i64 (p.2 : Int), .int .i64 x.n] 36)).drew fun e w' => e = .returned .nilIface ∧ ∃ S', Ex w1 rb ub n (.slice (some ⟨gg, 0, none⟩) gl.length gc) gl [(wr.heap.size, (.cells #[.int .i64 x.kind, .int .i64 (p.1 : Int), .int .i64 (p.2 : Int), .int .i64 x.n] 36))] (r.freed m) r t t S' U w') := by
                rw [hm] at ha I1
                have h := rol_free XD.rol m (p.2 : Int) I1.out I2.out ha
                rw [← hm] at h
                refine h.mono ?_
                rintro e w' ⟨he, S', h', s', hS'⟩
                exact ⟨he, S', XD.roll s' h' hS' HX.out.len.1⟩
              have C14 : Hid (∀ W' S', Ex w1 rb ub n (.slice (some ⟨gg, 0, none⟩) gl.length gc) gl [(wr.heap.size, (.cells #[.int .i64 x.kind, .int .i64 (p.1 : Int), .int .i64 (p.2 : Int), .int .i64 x.n] 36))] (r.freed m) r t t S' U W' → Calls Tryd.prog 14 #[.pointer (some ⟨ub, 0, none⟩), .agg #[.int .i64 (p.1 : Int), .int .i64 (p.2 : Int)]] W' fun e w' => e = .returned (.int .i64 0) ∧ ∃ U', Ex w1 rb ub n (.slice (some ⟨gg, 0, none⟩) gl.length gc) gl [(wr.heap.size, (.cells #[.int .i64 x.kind, .int .i64 (p.1 : Int), .int .i64 (p.2 : Int), .int .i64 x.n] 36))] (r.freed m) (r.freed m) t t S' U' w') := by
                intro W' S' hX
                rw [hm] at ha
                have h := rer_free hX.ref m (p.2 : Int) ha
                rw [← hm] at h
                refine h.mono ?_
                rintro e w' ⟨he, U', h', s', hU'⟩
                exact ⟨he, U', hX.reff s' h' hU' HX.out.len.2⟩
              have AF : Hid ((r.freed m).aliveB (p.1 : Int) (p.2 : Int) = false) := by
                show _ = _
                have h := RS.freed_alive ha (p.1 : Int) (p.2 : Int)
                rw [if_pos ⟨rfl, rfl⟩] at h
                rw [hm, Int.toNat_natCast] at h
                rw [hm]
                exact h
              have C15 : Hid (∀ W' S' U', Ex w1 rb ub n (.slice (some ⟨gg, 0, none⟩) gl.length gc) gl [(wr.heap.size, (.cells #[.int .i64 x.kind, .int .i64 (p.1 : Int), .int .i64 (p.2 : Int), .int .i64 x.n] 36))] (r.freed m) (r.freed m) t t S' U' W' → Calls Tryd.prog 15 #[.pointer (some ⟨rb, 0, none⟩), .agg #[.int .i64 (p.1 : Int), .int .i64 (p.2 : Int)]] W' fun e w' => e = .returned (.bool false) ∧ Ex w1 rb ub n (.slice (some ⟨gg, 0, none⟩) gl.length gc) gl [(wr.heap.size, (.cells #[.int .i64 x.kind, .int .i64 (p.1 : Int), .int .i64 (p.2 : Int), .int .i64 x.n] 36))] (r.freed m) (r.freed m) t t S' U' w') := by
                intro W' S' U' hX
                have h := rol_alive hX.rol (p.1 : Int) (p.2 : Int) I1.out I2.out
                rw [AF.out] at h
                exact h.mono fun e w' ⟨he, hb⟩ => ⟨he, hX.later hb⟩
              have C16 : Hid (∀ W' S' U', Ex w1 rb ub n (.slice (some ⟨gg, 0, none⟩) gl.length gc) gl [(wr.heap.size, (.cells #[.int .i64 x.kind, .int .i64 (p.1 : Int), .int .i64 (p.2 : Int), .int .i64 x.n] 36))] (r.freed m) (r.freed m) t t S' U' W' → Calls Tryd.prog 16 #[.pointer (some ⟨ub, 0, none⟩), .agg #[.int .i64 (p.1 : Int), .int .i64 (p.2 : Int)]] W' fun e w' => e = .returned (.bool false) ∧ Ex w1 rb ub n (.slice (some ⟨gg, 0, none⟩) gl.length gc) gl [(wr.heap.size, (.cells #[.int .i64 x.kind, .int .i64 (p.1 : Int), .int .i64 (p.2 : Int), .int .i64 x.n] 36))] (r.freed m) (r.freed m) t t S' U' w') := by
                intro W' S' U' hX
                have h := rer_alive hX.ref (p.1 : Int) (p.2 : Int)
                rw [AF.out] at h
                exact h.mono fun e w' ⟨he, hb⟩ => ⟨he, hX.later hb⟩
              clear ha hm AF
              go_wp2_with fail
              go_region_held3 (fun W' => W'.cell? ⟨wr.heap.size, 1, none⟩ = some (.int .i64 (p.1 : Int)) ∧ W'.cell? ⟨wr.heap.size, 2, none⟩ = some (.int .i64 (p.2 : Int)))
                (first | exact KX.out _ _ _ _ _ (by assumption))
                (first
                  | (go_at_call 13; refine C13.out.mono ?_; rintro e w6 ⟨rfl, S6, hx6⟩)
                  | (go_at_call 12; refine (number_nil _).mono ?_; rintro e w7 ⟨rfl, rfl⟩)
                  | (go_at_call 14; refine (C14.out _ _ (by assumption)).mono ?_; rintro e w8 ⟨rfl, U8, hx8⟩)
                  | (go_at_call 15; refine (C15.out _ _ _ (by assumption)).mono ?_; rintro e w9 ⟨rfl, hx9⟩)
                  | (go_at_call 16; refine (C16.out _ _ _ (by assumption)).mono ?_; rintro e w10 ⟨rfl, hx10⟩))
              have XF := hid (hx10.fewer (K' := []) (by simp))
              clear XD XE KX C13 C14 C15 C16 hx6 hx8 hx9 hx10
              go_wp2_with fail
              go_roundw
              case rel => exact ⟨k + 1, by omega, by go_num, r.freed m, t, _, _, gl, by omega, by omega, HS.out, XF.out⟩
              case measure => simp [intOf]; omega
            · have ha : r.aliveB (p.1 : Int) (p.2 : Int) = false := by simpa using ha
              have C13 : Hid (Calls Tryd.prog 13 #[.pointer (some ⟨rb, 0, none⟩), .agg #[.int .i64 (p.1 : Int), .int .i64 (p.2 : Int)]] (wr.alloc (.cells #[.int .i64 x.kind, .int .i64 (p.1 : Int), .int .i64 (p.2 : Int), .int .i64 x.n] 36)).drew fun e w' => ∃ tt q, e = .returned (.iface tt q) ∧ ErrAt Ad w' (.iface tt q) bFree 17 ∧ Ex w1 rb ub n (.slice (some ⟨gg, 0, none⟩) gl.length gc) gl [(wr.heap.size, (.cells #[.int .i64 x.kind, .int .i64 (p.1 : Int), .int .i64 (p.2 : Int), .int .i64 x.n] 36))] r r t t S U w') := by
                refine (rol_dead Ad XD.rol (E1.out.later XD.bel).four (p.1 : Int) (p.2 : Int) I1.out I2.out ha).mono ?_
                rintro e w' ⟨v, he, hv, hb⟩
                obtain ⟨tt, q, rfl⟩ := hv.shape
                exact ⟨tt, q, he, hv, XD.later hb⟩
              have C12 : Hid (∀ W' tt q, ErrAt Ad W' (.iface tt q) bFree 17 → Ex w1 rb ub n (.slice (some ⟨gg, 0, none⟩) gl.length gc) gl [(wr.heap.size, (.cells #[.int .i64 x.kind, .int .i64 (p.1 : Int), .int .i64 (p.2 : Int), .int .i64 x.n] 36))] r r t t S U W' → Calls Tryd.prog 12 #[.iface tt q] W' fun e w' => e = .returned (.int .i64 17) ∧ Ex w1 rb ub n (.slice (some ⟨gg, 0, none⟩) gl.length gc) gl [(wr.heap.size, (.cells #[.int .i64 x.kind, .int .i64 (p.1 : Int), .int .i64 (p.2 : Int), .int .i64 x.n] 36))] r r t t S U w') := by
                intro W' tt q hv hX
                exact (num_err (E1.out.later hX.bel) hv num17).mono fun e w' ⟨he, hb⟩ => ⟨he, hX.later hb⟩
              have C14 : Hid (∀ W', Ex w1 rb ub n (.slice (some ⟨gg, 0, none⟩) gl.length gc) gl [(wr.heap.size, (.cells #[.int .i64 x.kind, .int .i64 (p.1 : Int), .int .i64 (p.2 : Int), .int .i64 x.n] 36))] r r t t S U W' → Calls Tryd.prog 14 #[.pointer (some ⟨ub, 0, none⟩), .agg #[.int .i64 (p.1 : Int), .int .i64 (p.2 : Int)]] W' fun e w' => e = .returned (.int .i64 17) ∧ Ex w1 rb ub n (.slice (some ⟨gg, 0, none⟩) gl.length gc) gl [(wr.heap.size, (.cells #[.int .i64 x.kind, .int .i64 (p.1 : Int), .int .i64 (p.2 : Int), .int .i64 x.n] 36))] r r t t S U w') := by
                intro W' hX
                exact (rer_dead hX.ref (p.1 : Int) (p.2 : Int) ha).mono fun e w' ⟨he, hb⟩ => ⟨he, hX.later hb⟩
              have C15 : Hid (∀ W', Ex w1 rb ub n (.slice (some ⟨gg, 0, none⟩) gl.length gc) gl [(wr.heap.size, (.cells #[.int .i64 x.kind, .int .i64 (p.1 : Int), .int .i64 (p.2 : Int), .int .i64 x.n] 36))] r r t t S U W' → Calls Tryd.prog 15 #[.pointer (some ⟨rb, 0, none⟩), .agg #[.int .i64 (p.1 : Int), .int .i64 (p.2 : Int)]] W' fun e w' => e = .returned (.bool false) ∧ Ex w1 rb ub n (.slice (some ⟨gg, 0, none⟩) gl.length gc) gl [(wr.heap.size, (.cells #[.int .i64 x.kind, .int .i64 (p.1 : Int), .int .i64 (p.2 : Int), .int .i64 x.n] 36))] r r t t S U w') := by
                intro W' hX
                have h := rol_alive hX.rol (p.1 : Int) (p.2 : Int) I1.out I2.out
                rw [ha] at h
                exact h.mono fun e w' ⟨he, hb⟩ => ⟨he, hX.later hb⟩
              have C16 : Hid (∀ W', Ex w1 rb ub n (.slice (some ⟨gg, 0, none⟩) gl.length gc) gl [(wr.heap.size, (.cells #[.int .i64 x.kind, .int .i64 (p.1 : Int), .int .i64 (p.2 : Int), .int .i64 x.n] 36))] r r t t S U W' → Calls Tryd.prog 16 #[.pointer (some ⟨ub, 0, none⟩), .agg #[.int .i64 (p.1 : Int), .int .i64 (p.2 : Int)]] W' fun e w' => e = .returned (.bool false) ∧ Ex w1 rb ub n (.slice (some ⟨gg, 0, none⟩) gl.length gc) gl [(wr.heap.size, (.cells #[.int .i64 x.kind, .int .i64 (p.1 : Int), .int .i64 (p.2 : Int), .int .i64 x.n] 36))] r r t t S U w') := by
                intro W' hX
                have h := rer_alive hX.ref (p.1 : Int) (p.2 : Int)
                rw [ha] at h
                exact h.mono fun e w' ⟨he, hb⟩ => ⟨he, hX.later hb⟩
              clear ha
              go_wp2_with fail
              go_region_held3 (fun W' => W'.cell? ⟨wr.heap.size, 1, none⟩ = some (.int .i64 (p.1 : Int)) ∧ W'.cell? ⟨wr.heap.size, 2, none⟩ = some (.int .i64 (p.2 : Int)))
                (first | exact KX.out _ _ _ _ _ (by assumption))
                (first
                  | (go_at_call 13; refine C13.out.mono ?_; rintro e w6 ⟨t6, q6, rfl, hv6, hx6⟩)
                  | (go_at_call 12; refine (C12.out _ _ _ (by assumption) (by assumption)).mono ?_; rintro e w7 ⟨rfl, hx7⟩)
                  | (go_at_call 14; refine (C14.out _ (by assumption)).mono ?_; rintro e w8 ⟨rfl, hx8⟩)
                  | (go_at_call 15; refine (C15.out _ (by assumption)).mono ?_; rintro e w9 ⟨rfl, hx9⟩)
                  | (go_at_call 16; refine (C16.out _ (by assumption)).mono ?_; rintro e w10 ⟨rfl, hx10⟩))
              have XF := hid (hx10.fewer (K' := []) (by simp))
              clear XD XE KX C13 C12 C14 C15 C16 hx6 hx7 hx8 hx9 hx10
              go_wp2_with fail
              go_roundw
              case rel => exact ⟨k + 1, by omega, by go_num, r, t, S, U, gl, by omega, by omega, HS.out, XF.out⟩
              case measure => simp [intOf]; omega
          · have h0i : ¬ ((0 : Int) < (gl.length : Int)) := by omega
            have I1 : Hid (I64 x.i) := XW.out.2.1
            have I2 : Hid (I64 x.g) := XW.out.2.2.1
            have XE := hid (HX.out.new (.cells #[.int .i64 x.kind, .int .i64 x.i, .int .i64 x.g, .int .i64 x.n] 36))
            have XD : Ex w1 rb ub n (.slice ga gl.length gc) gl [(wr.heap.size, (.cells #[.int .i64 x.kind, .int .i64 x.i, .int .i64 x.g, .int .i64 x.n] 36))] r r t t S U (wr.alloc (.cells #[.int .i64 x.kind, .int .i64 x.i, .int .i64 x.g, .int .i64 x.n] 36)).drew := XE.out.later (Below.refl _ _).drew
            have KX : Hid (∀ r1 r2 S' U' W', Ex w1 rb ub n (.slice ga gl.length gc) gl [(wr.heap.size, (.cells #[.int .i64 x.kind, .int .i64 x.i, .int .i64 x.g, .int .i64 x.n] 36))] r1 r2 t t S' U' W' → W'.cell? ⟨wr.heap.size, 1, none⟩ = some (.int .i64 x.i) ∧ W'.cell? ⟨wr.heap.size, 2, none⟩ = some (.int .i64 x.g)) := fun r1 r2 S' U' W' h =>
              ⟨cell_blk (h.at (List.mem_cons_self ..)) rfl, cell_blk (h.at (List.mem_cons_self ..)) rfl⟩
            by_cases ha : r.aliveB x.i x.g = true
            · obtain ⟨m, hm⟩ : ∃ m : Nat, x.i = (m : Int) := Int.eq_ofNat_of_zero_le ((RS.aliveB_iff _ _ _).1 ha).1
              have C13 : Hid (Calls Tryd.prog 13 #[.pointer (some ⟨rb, 0, none⟩), .agg #[.int .i64 x.i, .int .i64 x.g]] (wr.alloc (.cells #[.int .i64 x.kind, .int .i64 x.i, .int .i64 x.g, .int .i64 x.n] 36)).drew fun e w' => e = .returned .nilIface ∧ ∃ S', Ex w1 rb ub n (.slice ga gl.length gc) gl [(wr.heap.size, (.cells #[.int .i64 x.kind, .int .i64 x.i, .int .i64 x.g, .int .i64 x.n] 36))] (r.freed m) r t t S' U w') := by
                rw [hm] at ha I1
                have h := rol_free XD.rol m x.g I1.out I2.out ha
                rw [← hm] at h
                refine h.mono ?_
                rintro e w' ⟨he, S', h', s', hS'⟩
                exact ⟨he, S', XD.roll s' h' hS' HX.out.len.1⟩
              have C14 : Hid (∀ W' S', Ex w1 rb ub n (.slice ga gl.length gc) gl [(wr.heap.size, (.cells #[.int .i64 x.kind, .int .i64 x.i, .int .i64 x.g, .int .i64 x.n] 36))] (r.freed m) r t t S' U W' → Calls Tryd.prog 14 #[.pointer (some ⟨ub, 0, none⟩), .agg #[.int .i64 x.i, .int .i64 x.g]] W' fun e w' => e = .returned (.int .i64 0) ∧ ∃ U', Ex w1 rb ub n (.slice ga gl.length gc) gl [(wr.heap.size, (.cells #[.int .i64 x.kind, .int .i64 x.i, .int .i64 x.g, .int .i64 x.n] 36))] (r.freed m) (r.freed m) t t S' U' w') := by
                intro W' S' hX
                rw [hm] at ha
                have h := rer_free hX.ref m x.g ha
                rw [← hm] at h
                refine h.mono ?_
                rintro e w' ⟨he, U', h', s', hU'⟩
                exact ⟨he, U', hX.reff s' h' hU' HX.out.len.2⟩
              have AF : Hid ((r.freed m).aliveB x.i x.g = false) := by
                show _ = _
                have h := RS.freed_alive ha x.i x.g
                rw [if_pos ⟨rfl, rfl⟩] at h
                rw [hm, Int.toNat_natCast] at h
                rw [hm]
                exact h
              have C15 : Hid (∀ W' S' U', Ex w1 rb ub n (.slice ga gl.length gc) gl [(wr.heap.size, (.cells #[.int .i64 x.kind, .int .i64 x.i, .int .i64 x.g, .int .i64 x.n] 36))] (r.freed m) (r.freed m) t t S' U' W' → Calls Tryd.prog 15 #[.pointer (some ⟨rb, 0, none⟩), .agg #[.int .i64 x.i, .int .i64 x.g]] W' fun e w' => e = .returned (.bool false) ∧ Ex w1 rb ub n (.slice ga gl.length gc) gl [(wr.heap.size, (.cells #[.int .i64 x.kind, .int .i64 x.i, .int .i64 x.g, .int .i64 x.n] 36))] (r.freed m) (r.freed m) t t S' U' w') := by
                intro W' S' U' hX
                have h := rol_alive hX.rol x.i x.g I1.out I2.out
                rw [AF.out] at h
                exact h.mono fun e w' ⟨he, hb⟩ => ⟨he, hX.later hb⟩
              have C16 : Hid (∀ W' S' U', Ex w1 rb ub n (.slice ga gl.length gc) gl [(wr.heap.size, (.cells #[.int .i64 x.kind, .int .i64 x.i, .int .i64 x.g, .int .i64 x.n] 36))] (r.freed m) (r.freed m) t t S' U' W' → Calls Tryd.prog 16 #[.pointer (some ⟨ub, 0, none⟩), .agg #[.int .i64 x.i, .int .i64 x.g]] W' fun e w' => e = .returned (.bool false) ∧ Ex w1 rb ub n (.slice ga gl.length gc) gl [(wr.heap.size, (.cells #[.int .i64 x.kind, .int .i64 x.i, .int .i64 x.g, .int .i64 x.n] 36))] (r.freed m) (r.freed m) t t S' U' w') := by
                intro W' S' U' hX
                have h := rer_alive hX.ref x.i x.g
                rw [AF.out] at h
                exact h.mono fun e w' ⟨he, hb⟩ => ⟨he, hX.later hb⟩
              clear ha hm AF
              go_wp2_with fail
              go_region_held3 (fun W' => W'.cell? ⟨wr.heap.size, 1, none⟩ = some (.int .i64 x.i) ∧ W'.cell? ⟨wr.heap.size, 2, none⟩ = some (.int .i64 x.g))
                (first | exact KX.out _ _ _ _ _ (by assumption))
                (first
                  | (go_at_call 13; refine C13.out.mono ?_; rintro e w6 ⟨rfl, S6, hx6⟩)
                  | (go_at_call 12; refine (number_nil _).mono ?_; rintro e w7 ⟨rfl, rfl⟩)
                  | (go_at_call 14; refine (C14.out _ _ (by assumption)).mono ?_; rintro e w8 ⟨rfl, U8, hx8⟩)
                  | (go_at_call 15; refine (C15.out _ _ _ (by assumption)).mono ?_; rintro e w9 ⟨rfl, hx9⟩)
                  | (go_at_call 16; refine (C16.out _ _ _ (by assumption)).mono ?_; rintro e w10 ⟨rfl, hx10⟩))
              have XF := hid (hx10.fewer (K' := []) (by simp))
              clear XD XE KX C13 C14 C15 C16 hx6 hx8 hx9 hx10
              go_wp2_with fail
              go_roundw
              case rel => exact ⟨k + 1, by omega, by go_num, r.freed m, t, _, _, gl, by omega, by omega, HS.out, XF.out⟩
              case measure => simp [intOf]; omega
            · have ha : r.aliveB x.i x.g = false := by simpa using ha
              have C13 : Hid (Calls Tryd.prog 13 #[.pointer (some ⟨rb, 0, none⟩), .agg #[.int .i64 x.i, .int .i64 x.g]] (wr.alloc (.cells #[.int .i64 x.kind, .int .i64 x.i, .int .i64 x.g, .int .i64 x.n] 36)).drew fun e w' => ∃ tt q, e = .returned (.iface tt q) ∧ ErrAt Ad w' (.iface tt q) bFree 17 ∧ Ex w1 rb ub n (.slice ga gl.length gc) gl [(wr.heap.size, (.cells #[.int .i64 x.kind, .int .i64 x.i, .int .i64 x.g, .int .i64 x.n] 36))] r r t t S U w') := by
                refine (rol_dead Ad XD.rol (E1.out.later XD.bel).four x.i x.g I1.out I2.out ha).mono ?_
                rintro e w' ⟨v, he, hv, hb⟩
                obtain ⟨tt, q, rfl⟩ := hv.shape
                exact ⟨tt, q, he, hv, XD.later hb⟩
              have C12 : Hid (∀ W' tt q, ErrAt Ad W' (.iface tt q) bFree 17 → Ex w1 rb ub n (.slice ga gl.length gc) gl [(wr.heap.size, (.cells #[.int .i64 x.kind, .int .i64 x.i, .int .i64 x.g, .int .i64 x.n] 36))] r r t t S U W' → Calls Tryd.prog 12 #[.iface tt q] W' fun e w' => e = .returned (.int .i64 17) ∧ Ex w1 rb ub n (.slice ga gl.length gc) gl [(wr.heap.size, (.cells #[.int .i64 x.kind, .int .i64 x.i, .int .i64 x.g, .int .i64 x.n] 36))] r r t t S U w') := by
                intro W' tt q hv hX
                exact (num_err (E1.out.later hX.bel) hv num17).mono fun e w' ⟨he, hb⟩ => ⟨he, hX.later hb⟩
              have C14 : Hid (∀ W', Ex w1 rb ub n (.slice ga gl.length gc) gl [(wr.heap.size, (.cells #[.int .i64 x.kind, .int .i64 x.i, .int .i64 x.g, .int .i64 x.n] 36))] r r t t S U W' → Calls Tryd.prog 14 #[.pointer (some ⟨ub, 0, none⟩), .agg #[.int .i64 x.i, .int .i64 x.g]] W' fun e w' => e = .returned (.int .i64 17) ∧ Ex w1 rb ub n (.slice ga gl.length gc) gl [(wr.heap.size, (.cells #[.int .i64 x.kind, .int .i64 x.i, .int .i64 x.g, .int .i64 x.n] 36))] r r t t S U w') := by
                intro W' hX
                exact (rer_dead hX.ref x.i x.g ha).mono fun e w' ⟨he, hb⟩ => ⟨he, hX.later hb⟩
              have C15 : Hid (∀ W', Ex w1 rb ub n (.slice ga gl.length gc) gl [(wr.heap.size, (.cells #[.int .i64 x.kind, .int .i64 x.i, .int .i64 x.g, .int .i64 x.n] 36))] r r t t S U W' → Calls Tryd.prog 15 #[.pointer (some ⟨rb, 0, none⟩), .agg #[.int .i64 x.i, .int .i64 x.g]] W' fun e w' => e = .returned (.bool false) ∧ Ex w1 rb ub n (.slice ga gl.length gc) gl [(wr.heap.size, (.cells #[.int .i64 x.kind, .int .i64 x.i, .int .i64 x.g, .int .i64 x.n] 36))] r r t t S U w') := by
                intro W' hX
                have h := rol_alive hX.rol x.i x.g I1.out I2.out
                rw [ha] at h
                exact h.mono fun e w' ⟨he, hb⟩ => ⟨he, hX.later hb⟩
              have C16 : Hid (∀ W', Ex w1 rb ub n (.slice ga gl.length gc) gl [(wr.heap.size, (.cells #[.int .i64 x.kind, .int .i64 x.i, .int .i64 x.g, .int .i64 x.n] 36))] r r t t S U W' → Calls Tryd.prog 16 #[.pointer (some ⟨ub, 0, none⟩), .agg #[.int .i64 x.i, .int .i64 x.g]] W' fun e w' => e = .returned (.bool false) ∧ Ex w1 rb ub n (.slice ga gl.length gc) gl [(wr.heap.size, (.cells #[.int .i64 x.kind, .int .i64 x.i, .int .i64 x.g, .int .i64 x.n] 36))] r r t t S U w') := by
                intro W' hX
                have h := rer_alive hX.ref x.i x.g
                rw [ha] at h
                exact h.mono fun e w' ⟨he, hb⟩ => ⟨he, hX.later hb⟩
              clear ha
              go_wp2_with fail
              go_region_held3 (fun W' => W'.cell? ⟨wr.heap.size, 1, none⟩ = some (.int .i64 x.i) ∧ W'.cell? ⟨wr.heap.size, 2, none⟩ = some (.int .i64 x.g))
                (first | exact KX.out _ _ _ _ _ (by assumption))
                (first
                  | (go_at_call 13; refine C13.out.mono ?_; rintro e w6 ⟨t6, q6, rfl, hv6, hx6⟩)
                  | (go_at_call 12; refine (C12.out _ _ _ (by assumption) (by assumption)).mono ?_; rintro e w7 ⟨rfl, hx7⟩)
                  | (go_at_call 14; refine (C14.out _ (by assumption)).mono ?_; rintro e w8 ⟨rfl, hx8⟩)
                  | (go_at_call 15; refine (C15.out _ (by assumption)).mono ?_; rintro e w9 ⟨rfl, hx9⟩)
                  | (go_at_call 16; refine (C16.out _ (by assumption)).mono ?_; rintro e w10 ⟨rfl, hx10⟩))
              have XF := hid (hx10.fewer (K' := []) (by simp))
              clear XD XE KX C13 C12 C14 C15 C16 hx6 hx7 hx8 hx9 hx10
              go_wp2_with fail
              go_roundw
              case rel => exact ⟨k + 1, by omega, by go_num, r, t, S, U, gl, by omega, by omega, HS.out, XF.out⟩
              case measure => simp [intOf]; omega
        · have q3 : (x.kind == 3) = false := by simp [hk3]
          have I1 : Hid (I64 x.i) := XW.out.2.1
          have I2 : Hid (I64 x.g) := XW.out.2.2.1
          clear hk3
          have XE := hid (HX.out.new (.cells #[.int .i64 x.kind, .int .i64 x.i, .int .i64 x.g, .int .i64 x.n] 36))
          have XD : Ex w1 rb ub n (.slice ga gl.length gc) gl [(wr.heap.size, (.cells #[.int .i64 x.kind, .int .i64 x.i, .int .i64 x.g, .int .i64 x.n] 36))] r r t t S U (wr.alloc (.cells #[.int .i64 x.kind, .int .i64 x.i, .int .i64 x.g, .int .i64 x.n] 36)).drew := XE.out.later (Below.refl _ _).drew
          have KX : Hid (∀ r1 r2 S' U' W', Ex w1 rb ub n (.slice ga gl.length gc) gl [(wr.heap.size, (.cells #[.int .i64 x.kind, .int .i64 x.i, .int .i64 x.g, .int .i64 x.n] 36))] r1 r2 t t S' U' W' → W'.cell? ⟨wr.heap.size, 1, none⟩ = some (.int .i64 x.i) ∧ W'.cell? ⟨wr.heap.size, 2, none⟩ = some (.int .i64 x.g)) := fun r1 r2 S' U' W' h =>
            ⟨cell_blk (h.at (List.mem_cons_self ..)) rfl, cell_blk (h.at (List.mem_cons_self ..)) rfl⟩
          by_cases ha : r.aliveB x.i x.g = true
          · obtain ⟨m, hm⟩ : ∃ m : Nat, x.i = (m : Int) := Int.eq_ofNat_of_zero_le ((RS.aliveB_iff _ _ _).1 ha).1
            have C13 : Hid (Calls Tryd.prog 13 #[.pointer (some ⟨rb, 0, none⟩), .agg #[.int .i64 x.i, .int .i64 x.g]] (wr.alloc (.cells #[.int .i64 x.kind, .int .i64 x.i, .int .i64 x.g, .int .i64 x.n] 36)).drew fun e w' => e = .returned .nilIface ∧ ∃ S', Ex w1 rb ub n (.slice ga gl.length gc) gl [(wr.heap.size, (.cells #[.int .i64 x.kind, .int .i64 x.i, .int .i64 x.g, .int .i64 x.n] 36))] (r.freed m) r t t S' U w') := by
              rw [hm] at ha I1
              have h := rol_free XD.rol m x.g I1.out I2.out ha
              rw [← hm] at h
              refine h.mono ?_
              rintro e w' ⟨he, S', h', s', hS'⟩
              exact ⟨he, S', XD.roll s' h' hS' HX.out.len.1⟩
            have C14 : Hid (∀ W' S', Ex w1 rb ub n (.slice ga gl.length gc) gl [(wr.heap.size, (.cells #[.int .i64 x.kind, .int .i64 x.i, .int .i64 x.g, .int .i64 x.n] 36))] (r.freed m) r t t S' U W' → Calls Tryd.prog 14 #[.pointer (some ⟨ub, 0, none⟩), .agg #[.int .i64 x.i, .int .i64 x.g]] W' fun e w' => e = .returned (.int .i64 0) ∧ ∃ U', Ex w1 rb ub n (.slice ga gl.length gc) gl [(wr.heap.size, (.cells #[.int .i64 x.kind, .int .i64 x.i, .int .i64 x.g, .int .i64 x.n] 36))] (r.freed m) (r.freed m) t t S' U' w') := by
              intro W' S' hX
              rw [hm] at ha
              have h := rer_free hX.ref m x.g ha
              rw [← hm] at h
              refine h.mono ?_
              rintro e w' ⟨he, U', h', s', hU'⟩
              exact ⟨he, U', hX.reff s' h' hU' HX.out.len.2⟩
            have AF : Hid ((r.freed m).aliveB x.i x.g = false) := by
              show _ = _
              have h := RS.freed_alive ha x.i x.g
              rw [if_pos ⟨rfl, rfl⟩] at h
              rw [hm, Int.toNat_natCast] at h
              rw [hm]
              exact h
            have C15 : Hid (∀ W' S' U', Ex w1 rb ub n (.slice ga gl.length gc) gl [(wr.heap.size, (.cells #[.int .i64 x.kind, .int .i64 x.i, .int .i64 x.g, .int .i64 x.n] 36))] (r.freed m) (r.freed m) t t S' U' W' → Calls Tryd.prog 15 #[.pointer (some ⟨rb, 0, none⟩), .agg #[.int .i64 x.i, .int .i64 x.g]] W' fun e w' => e = .returned (.bool false) ∧ Ex w1 rb ub n (.slice ga gl.length gc) gl [(wr.heap.size, (.cells #[.int .i64 x.kind, .int .i64 x.i, .int .i64 x.g, .int .i64 x.n] 36))] (r.freed m) (r.freed m) t t S' U' w') := by
              intro W' S' U' hX
              have h := rol_alive hX.rol x.i x.g I1.out I2.out
              rw [AF.out] at h
              exact h.mono fun e w' ⟨he, hb⟩ => ⟨he, hX.later hb⟩
            have C16 : Hid (∀ W' S' U', Ex w1 rb ub n (.slice ga gl.length gc) gl [(wr.heap.size, (.cells #[.int .i64 x.kind, .int .i64 x.i, .int .i64 x.g, .int .i64 x.n] 36))] (r.freed m) (r.freed m) t t S' U' W' → Calls Tryd.prog 16 #[.pointer (some ⟨ub, 0, none⟩), .agg #[.int .i64 x.i, .int .i64 x.g]] W' fun e w' => e = .returned (.bool false) ∧ Ex w1 rb ub n (.slice ga gl.length gc) gl [(wr.heap.size, (.cells #[.int .i64 x.kind, .int .i64 x.i, .int .i64 x.g, .int .i64 x.n] 36))] (r.freed m) (r.freed m) t t S' U' w') := by
              intro W' S' U' hX
              have h := rer_alive hX.ref x.i x.g
              rw [AF.out] at h
              exact h.mono fun e w' ⟨he, hb⟩ => ⟨he, hX.later hb⟩
            clear ha hm AF
            go_wp2_with fail
            go_region_held3 (fun W' => W'.cell? ⟨wr.heap.size, 1, none⟩ = some (.int .i64 x.i) ∧ W'.cell? ⟨wr.heap.size, 2, none⟩ = some (.int .i64 x.g))
              (first | exact KX.out _ _ _ _ _ (by assumption))
              (first
                | (go_at_call 13; refine C13.out.mono ?_; rintro e w6 ⟨rfl, S6, hx6⟩)
                | (go_at_call 12; refine (number_nil _).mono ?_; rintro e w7 ⟨rfl, rfl⟩)
                | (go_at_call 14; refine (C14.out _ _ (by assumption)).mono ?_; rintro e w8 ⟨rfl, U8, hx8⟩)
                | (go_at_call 15; refine (C15.out _ _ _ (by assumption)).mono ?_; rintro e w9 ⟨rfl, hx9⟩)
                | (go_at_call 16; refine (C16.out _ _ _ (by assumption)).mono ?_; rintro e w10 ⟨rfl, hx10⟩))
            have XF := hid (hx10.fewer (K' := []) (by simp))
            clear XD XE KX C13 C14 C15 C16 hx6 hx8 hx9 hx10
            go_wp2_with fail
            go_roundw
            case rel => exact ⟨k + 1, by omega, by go_num, r.freed m, t, _, _, gl, by omega, by omega, HS.out, XF.out⟩
            case measure => simp [intOf]; omega
          · have ha : r.aliveB x.i x.g = false := by simpa using ha
            have C13 : Hid (Calls Tryd.prog 13 #[.pointer (some ⟨rb, 0, none⟩), .agg #[.int .i64 x.i, .int .i64 x.g]] (wr.alloc (.cells #[.int .i64 x.kind, .int .i64 x.i, .int .i64 x.g, .int .i64 x.n] 36)).drew fun e w' => ∃ tt q, e = .returned (.iface tt q) ∧ ErrAt Ad w' (.iface tt q) bFree 17 ∧ Ex w1 rb ub n (.slice ga gl.length gc) gl [(wr.heap.size, (.cells #[.int .i64 x.kind, .int .i64 x.i, .int .i64 x.g, .int .i64 x.n] 36))] r r t t S U w') := by
              refine (rol_dead Ad XD.rol (E1.out.later XD.bel).four x.i x.g I1.out I2.out ha).mono ?_
              rintro e w' ⟨v, he, hv, hb⟩
              obtain ⟨tt, q, rfl⟩ := hv.shape
              exact ⟨tt, q, he, hv, XD.later hb⟩
            have C12 : Hid (∀ W' tt q, ErrAt Ad W' (.iface tt q) bFree 17 → Ex w1 rb ub n (.slice ga gl.length gc) gl [(wr.heap.size, (.cells #[.int .i64 x.kind, .int .i64 x.i, .int .i64 x.g, .int .i64 x.n] 36))] r r t t S U W' → Calls Tryd.prog 12 #[.iface tt q] W' fun e w' => e = .returned (.int .i64 17) ∧ Ex w1 rb ub n (.slice ga gl.length gc) gl [(wr.heap.size, (.cells #[.int .i64 x.kind, .int .i64 x.i, .int .i64 x.g, .int .i64 x.n] 36))] r r t t S U w') := by
              intro W' tt q hv hX
              exact (num_err (E1.out.later hX.bel) hv num17).mono fun e w' ⟨he, hb⟩ => ⟨he, hX.later hb⟩
            have C14 : Hid (∀ W', Ex w1 rb ub n (.slice ga gl.length gc) gl [(wr.heap.size, (.cells #[.int .i64 x.kind, .int .i64 x.i, .int .i64 x.g, .int .i64 x.n] 36))] r r t t S U W' → Calls Tryd.prog 14 #[.pointer (some ⟨ub, 0, none⟩), .agg #[.int .i64 x.i, .int .i64 x.g]] W' fun e w' => e = .returned (.int .i64 17) ∧ Ex w1 rb ub n (.slice ga gl.length gc) gl [(wr.heap.size, (.cells #[.int .i64 x.kind, .int .i64 x.i, .int .i64 x.g, .int .i64 x.n] 36))] r r t t S U w') := by
              intro W' hX
              exact (rer_dead hX.ref x.i x.g ha).mono fun e w' ⟨he, hb⟩ => ⟨he, hX.later hb⟩
            have C15 : Hid (∀ W', Ex w1 rb ub n (.slice ga gl.length gc) gl [(wr.heap.size, (.cells #[.int .i64 x.kind, .int .i64 x.i, .int .i64 x.g, .int .i64 x.n] 36))] r r t t S U W' → Calls Tryd.prog 15 #[.pointer (some ⟨rb, 0, none⟩), .agg #[.int .i64 x.i, .int .i64 x.g]] W' fun e w' => e = .returned (.bool false) ∧ Ex w1 rb ub n (.slice ga gl.length gc) gl [(wr.heap.size, (.cells #[.int .i64 x.kind, .int .i64 x.i, .int .i64 x.g, .int .i64 x.n] 36))] r r t t S U w') := by
              intro W' hX
              have h := rol_alive hX.rol x.i x.g I1.out I2.out
              rw [ha] at h
              exact h.mono fun e w' ⟨he, hb⟩ => ⟨he, hX.later hb⟩
            have C16 : Hid (∀ W', Ex w1 rb ub n (.slice ga gl.length gc) gl [(wr.heap.size, (.cells #[.int .i64 x.kind, .int .i64 x.i, .int .i64 x.g, .int .i64 x.n] 36))] r r t t S U W' → Calls Tryd.prog 16 #[.pointer (some ⟨ub, 0, none⟩), .agg #[.int .i64 x.i, .int .i64 x.g]] W' fun e w' => e = .returned (.bool false) ∧ Ex w1 rb ub n (.slice ga gl.length gc) gl [(wr.heap.size, (.cells #[.int .i64 x.kind, .int .i64 x.i, .int .i64 x.g, .int .i64 x.n] 36))] r r t t S U w') := by
              intro W' hX
              have h := rer_alive hX.ref x.i x.g
              rw [ha] at h
              exact h.mono fun e w' ⟨he, hb⟩ => ⟨he, hX.later hb⟩
            clear ha
            go_wp2_with fail
            go_region_held3 (fun W' => W'.cell? ⟨wr.heap.size, 1, none⟩ = some (.int .i64 x.i) ∧ W'.cell? ⟨wr.heap.size, 2, none⟩ = some (.int .i64 x.g))
              (first | exact KX.out _ _ _ _ _ (by assumption))
              (first
                | (go_at_call 13; refine C13.out.mono ?_; rintro e w6 ⟨t6, q6, rfl, hv6, hx6⟩)
                | (go_at_call 12; refine (C12.out _ _ _ (by assumption) (by assumption)).mono ?_; rintro e w7 ⟨rfl, hx7⟩)
                | (go_at_call 14; refine (C14.out _ (by assumption)).mono ?_; rintro e w8 ⟨rfl, hx8⟩)
                | (go_at_call 15; refine (C15.out _ (by assumption)).mono ?_; rintro e w9 ⟨rfl, hx9⟩)
                | (go_at_call 16; refine (C16.out _ (by assumption)).mono ?_; rintro e w10 ⟨rfl, hx10⟩))
            have XF := hid (hx10.fewer (K' := []) (by simp))
            clear XD XE KX C13 C12 C14 C15 C16 hx6 hx7 hx8 hx9 hx10
            go_wp2_with fail
            go_roundw
            case rel => exact ⟨k + 1, by omega, by go_num, r, t, S, U, gl, by omega, by omega, HS.out, XF.out⟩
            case measure => simp [intOf]; omega
    · by_cases h1 : k < cl.length
      · have h1i : (k : Int) < (cl.length : Int) := by omega
        have h2i : ¬ ((k : Int) < 200) := by omega
        clear hc
        rename World => wo
        have LC := hid (rer_list HX.out.ref)
        go_wp2_with fail
        refine LC.out.mono ?_
        rintro e w4 ⟨lv, rfl, hl4, b4⟩
        obtain ⟨la, lc, rfl⟩ := hl4.slice
        have X4 := hid (HX.out.later b4)
        have L4 := hid hl4
        have TN := hid (take_nil Ad w4 (E1.out.later X4.out.bel).four)
        clear LC hl4 b4
        go_wp2_with fail
        refine TN.out.mono ?_
        rintro e w5 ⟨v5, rfl, hv5, b5⟩
        obtain ⟨t5, q5, rfl⟩ := hv5.shape
        have b5' := b5.trans ((bAl w5 (.cells #[.int .i64 0, .int .i64 0] 24)).mono b5.size)
        have X5 := hid (X4.out.later b5')
        have V5 := hid (hv5.later (bAl w5 (.cells #[.int .i64 0, .int .i64 0] 24)))
        have L5 := hid (Ents.later L4.out b5')
        obtain ⟨w6, hw6⟩ : ∃ w6, w6 = w5.alloc (.cells #[.int .i64 0, .int .i64 0] 24) := ⟨_, rfl⟩
        rw [← hw6] at X5 V5 L5
        have HW6 := hid hw6
        have hal : r.all.length ≤ 64 := by have h1 := r.upto_len r.gens.length; have h2 := HX.out.rol.small; show (r.upto r.gens.length).length ≤ 64; omega
        have hali : (r.all.length : Int) ≤ 64 := by omega
        have KK : Hid (∀ W', Below w6.heap.size w6 W' → W'.cell? ⟨w.heap.size, 0, none⟩ = some (.int .i64 ei) ∧ W'.cell? ⟨w.heap.size, 1, none⟩ = some (.int .i64 eg) ∧ W'.cell? ⟨1, 0, none⟩ = some (.iface 91 (.pointer (some (Ad 2))))) := by
          intro W' hb
          have b16 := X5.out.bel.trans (hb.mono X5.out.bel.size)
          have e0 := blk_seen b16 (Nat.le_refl _) EB1.out
          exact ⟨cell_blk e0 rfl, cell_blk e0 rfl, (E1.out.later b16).four.c2⟩
        have EE : Hid (∀ W', Below w6.heap.size w6 W' → Env4 W' Ad) := fun W' hb => (E1.out.later (X5.out.bel.trans (hb.mono X5.out.bel.size))).four
        have C19 : Hid (∀ W', Below w6.heap.size w6 W' → Calls Tryd.prog 19 #[.pointer (some ⟨rb, 0, none⟩)] W' fun e w' => ∃ ka kc B', e = .returned (.slice ka r.all.length kc) ∧ Ents B' w' (.slice ka r.all.length kc) r.all ∧ Below w6.heap.size w6 w') := fun W' hb =>
          (rol_list (X5.out.later hb).rol (by omega)).mono fun e w' ⟨v, he, h1, h2⟩ => by
            obtain ⟨ka, kc, rfl⟩ := h1.slice
            exact ⟨ka, kc, _, he, h1, hb.trans (h2.mono hb.size)⟩
        have C18 : Hid (∀ W' ka kc B', Ents B' W' (.slice ka r.all.length kc) r.all → Below w6.heap.size w6 W' → Calls Tryd.prog 18 #[.slice ka r.all.length kc, .slice la r.all.length lc] W' fun e w' => e = .returned (.bool true) ∧ Below w6.heap.size w6 w') := fun W' ka kc B' h1 hb =>
          (same_any h1 (Ents.later L5.out hb) (by omega) (fun p hp => by
            obtain ⟨e1, e2, e3⟩ := RS.upto_mem hp
            have h2 := HX.out.rol.small
            have h3 := RS.gen_le HX.out.rol e1
            omega)).mono fun e w' ⟨he, h2⟩ => ⟨he, hb.trans (h2.mono hb.size)⟩
        have C20 : Hid (∀ W', Below w6.heap.size w6 W' → Calls Tryd.prog 20 #[.pointer (some ⟨rb, 0, none⟩)] W' fun e w' => e = .returned (.int .i64 (r.all.length : Int)) ∧ w' = W') := fun W' hb => by
          rw [RS.all_count HX.out.rol.ok]
          exact rol_count (X5.out.later hb).rol
        have C21 : Hid (∀ W', Below w6.heap.size w6 W' → Calls Tryd.prog 21 #[.pointer (some ⟨rb, 0, none⟩)] W' fun e w' => e = .returned (.int .i64 (n : Int)) ∧ w' = W') := fun W' hb => by
          have h := rol_most (X5.out.later hb).rol
          rw [HX.out.len.1] at h
          exact h
        obtain ⟨bb, hbb⟩ : ∃ bb, bb = r.aliveB ei eg := ⟨_, rfl⟩
        have C15 : Hid (∀ W', Below w6.heap.size w6 W' → Calls Tryd.prog 15 #[.pointer (some ⟨rb, 0, none⟩), .agg #[.int .i64 ei, .int .i64 eg]] W' fun e w' => e = .returned (.bool bb) ∧ Below w6.heap.size w6 w') := fun W' hb => by
          rw [hbb]
          exact (rol_alive (X5.out.later hb).rol ei eg HW.out HG.out).mono fun e w' ⟨he, h2⟩ => ⟨he, hb.trans (h2.mono hb.size)⟩
        have C16 : Hid (∀ W', Below w6.heap.size w6 W' → Calls Tryd.prog 16 #[.pointer (some ⟨ub, 0, none⟩), .agg #[.int .i64 ei, .int .i64 eg]] W' fun e w' => e = .returned (.bool bb) ∧ Below w6.heap.size w6 w') := fun W' hb => by
          rw [hbb]
          exact (rer_alive (X5.out.later hb).ref ei eg).mono fun e w' ⟨he, h2⟩ => ⟨he, hb.trans (h2.mono hb.size)⟩
        have C9 : Hid (∀ W', Below w6.heap.size w6 W' → Calls Tryd.prog 9 #[.iface t5 q5, .iface 91 (.pointer (some (Ad 2)))] W' fun e w' => e = .returned (.bool true) ∧ Below w6.heap.size w6 w') := fun W' hb =>
          (is_err Ad (EE.out W' hb) (V5.out.later hb) (by decide) (by decide)).mono fun e w' ⟨he, h2⟩ => ⟨he, hb.trans (h2.mono hb.size)⟩
        have C9' : Hid (∀ W' tt qq, ErrAt Ad W' (.iface tt qq) bFree 2 → Below w6.heap.size w6 W' → Calls Tryd.prog 9 #[.iface tt qq, .iface 91 (.pointer (some (Ad 2)))] W' fun e w' => e = .returned (.bool true) ∧ Below w6.heap.size w6 w') := fun W' tt qq hv hb =>
          (is_err Ad (EE.out W' hb) hv (by decide) (by decide)).mono fun e w' ⟨he, h2⟩ => ⟨he, hb.trans (h2.mono hb.size)⟩
        have C13 : Hid (∀ W', Below w6.heap.size w6 W' → Calls Tryd.prog 13 #[.pointer none, .agg #[.int .i64 ei, .int .i64 eg]] W' fun e w' => ∃ tt qq, e = .returned (.iface tt qq) ∧ ErrAt Ad w' (.iface tt qq) bFree 2 ∧ Below w6.heap.size w6 w') := fun W' hb =>
          (free_nil Ad W' (EE.out W' hb) ei eg).mono fun e w' ⟨v, he, hv, h2⟩ => by
            obtain ⟨tt, qq, rfl⟩ := hv.shape
            exact ⟨tt, qq, he, hv, hb.trans (h2.mono hb.size)⟩
        have C15n : Hid (∀ W', Below w6.heap.size w6 W' → Calls Tryd.prog 15 #[.pointer none, .agg #[.int .i64 ei, .int .i64 eg]] W' fun e w' => e = .returned (.bool false) ∧ Below w6.heap.size w6 w') := fun W' hb =>
          (alive_nil _ ei eg rfl W').mono fun e w' ⟨he, h2⟩ => ⟨he, hb.trans (h2.mono hb.size)⟩
        have B6 := hid (B1.out.trans (X5.out.bel.mono B1.out.size))
        clear hbb b5 b5' hv5 TN hw6
        have hbq : (bb == bb) = true := by simp
        go_wp2_with fail
        rw [← HW6.out]
        go_region_held3 (fun W' => W'.cell? ⟨w.heap.size, 0, none⟩ = some (.int .i64 ei) ∧ W'.cell? ⟨w.heap.size, 1, none⟩ = some (.int .i64 eg) ∧ W'.cell? ⟨1, 0, none⟩ = some (.iface 91 (.pointer (some (Ad 2)))))
          (first | exact KK.out _ (by assumption) | exact KK.out _ (Below.refl _ _).drew)
          (first
            | (go_at_call_of 19 (Value.pointer (some ⟨rb, 0, none⟩)); refine (C19.out _ (by first | assumption | exact (Below.refl _ _).drew)).mono ?_; rintro e w8 ⟨ka, kc, B8, rfl, hen8, hb8⟩)
            | (go_at_call 18; refine (C18.out _ _ _ _ (by assumption) (by assumption)).mono ?_; rintro e w8 ⟨rfl, hb8⟩)
            | (go_at_call_of 20 (Value.pointer (some ⟨rb, 0, none⟩)); refine (C20.out _ (by assumption)).mono ?_; rintro e w8 ⟨rfl, rfl⟩)
            | (go_at_call_of 21 (Value.pointer (some ⟨rb, 0, none⟩)); refine (C21.out _ (by assumption)).mono ?_; rintro e w8 ⟨rfl, rfl⟩)
            | (go_at_call_of 15 (Value.pointer (some ⟨rb, 0, none⟩)); refine (C15.out _ (by assumption)).mono ?_; rintro e w8 ⟨rfl, hb8⟩)
            | (go_at_call 16; refine (C16.out _ (by assumption)).mono ?_; rintro e w8 ⟨rfl, hb8⟩)
            | (go_at_call_of 9 (Value.iface t5 q5); refine (C9.out _ (by assumption)).mono ?_; rintro e w8 ⟨rfl, hb8⟩)
            | (go_at_call 9; refine (C9'.out _ _ _ (by assumption) (by assumption)).mono ?_; rintro e w8 ⟨rfl, hb8⟩)
            | (go_at_call 13; refine (C13.out _ (by assumption)).mono ?_; rintro e w8 ⟨t8, q8, rfl, hv8, hb8⟩)
            | (go_at_call 15; refine (C15n.out _ (by assumption)).mono ?_; rintro e w8 ⟨rfl, hb8⟩)
            | (go_at_call 20; refine (count_nil _).mono ?_; rintro e w8 ⟨rfl, rfl⟩)
            | (go_at_call 21; refine (most_nil _).mono ?_; rintro e w8 ⟨rfl, rfl⟩)
            | (go_at_call 19; refine (list_nil _).mono ?_; rintro e w8 ⟨rfl, rfl⟩))
        have BF := hid (B6.out.trans (hb8.mono B6.out.size))
        clear KK EE C19 C18 C20 C21 C15 C16 C9 C9' C13 C15n hb8
        go_wp2_with fail
        go_ret
        exact ⟨rfl, BF.out⟩
      · have h1i : ¬ ((k : Int) < (cl.length : Int)) := by omega
        clear hc
        rename World => wo
        have LC := hid (rer_list HX.out.ref)
        go_wp2_with fail
        refine LC.out.mono ?_
        rintro e w4 ⟨lv, rfl, hl4, b4⟩
        obtain ⟨la, lc, rfl⟩ := hl4.slice
        have X4 := hid (HX.out.later b4)
        have L4 := hid hl4
        have TN := hid (take_nil Ad w4 (E1.out.later X4.out.bel).four)
        clear LC hl4 b4
        go_wp2_with fail
        refine TN.out.mono ?_
        rintro e w5 ⟨v5, rfl, hv5, b5⟩
        obtain ⟨t5, q5, rfl⟩ := hv5.shape
        have b5' := b5.trans ((bAl w5 (.cells #[.int .i64 0, .int .i64 0] 24)).mono b5.size)
        have X5 := hid (X4.out.later b5')
        have V5 := hid (hv5.later (bAl w5 (.cells #[.int .i64 0, .int .i64 0] 24)))
        have L5 := hid (Ents.later L4.out b5')
        obtain ⟨w6, hw6⟩ : ∃ w6, w6 = w5.alloc (.cells #[.int .i64 0, .int .i64 0] 24) := ⟨_, rfl⟩
        rw [← hw6] at X5 V5 L5
        have HW6 := hid hw6
        have hal : r.all.length ≤ 64 := by have h1 := r.upto_len r.gens.length; have h2 := HX.out.rol.small; show (r.upto r.gens.length).length ≤ 64; omega
        have hali : (r.all.length : Int) ≤ 64 := by omega
        have KK : Hid (∀ W', Below w6.heap.size w6 W' → W'.cell? ⟨w.heap.size, 0, none⟩ = some (.int .i64 ei) ∧ W'.cell? ⟨w.heap.size, 1, none⟩ = some (.int .i64 eg) ∧ W'.cell? ⟨1, 0, none⟩ = some (.iface 91 (.pointer (some (Ad 2))))) := by
          intro W' hb
          have b16 := X5.out.bel.trans (hb.mono X5.out.bel.size)
          have e0 := blk_seen b16 (Nat.le_refl _) EB1.out
          exact ⟨cell_blk e0 rfl, cell_blk e0 rfl, (E1.out.later b16).four.c2⟩
        have EE : Hid (∀ W', Below w6.heap.size w6 W' → Env4 W' Ad) := fun W' hb => (E1.out.later (X5.out.bel.trans (hb.mono X5.out.bel.size))).four
        have C19 : Hid (∀ W', Below w6.heap.size w6 W' → Calls Tryd.prog 19 #[.pointer (some ⟨rb, 0, none⟩)] W' fun e w' => ∃ ka kc B', e = .returned (.slice ka r.all.length kc) ∧ Ents B' w' (.slice ka r.all.length kc) r.all ∧ Below w6.heap.size w6 w') := fun W' hb =>
          (rol_list (X5.out.later hb).rol (by omega)).mono fun e w' ⟨v, he, h1, h2⟩ => by
            obtain ⟨ka, kc, rfl⟩ := h1.slice
            exact ⟨ka, kc, _, he, h1, hb.trans (h2.mono hb.size)⟩
        have C18 : Hid (∀ W' ka kc B', Ents B' W' (.slice ka r.all.length kc) r.all → Below w6.heap.size w6 W' → Calls Tryd.prog 18 #[.slice ka r.all.length kc, .slice la r.all.length lc] W' fun e w' => e = .returned (.bool true) ∧ Below w6.heap.size w6 w') := fun W' ka kc B' h1 hb =>
          (same_any h1 (Ents.later L5.out hb) (by omega) (fun p hp => by
            obtain ⟨e1, e2, e3⟩ := RS.upto_mem hp
            have h2 := HX.out.rol.small
            have h3 := RS.gen_le HX.out.rol e1
            omega)).mono fun e w' ⟨he, h2⟩ => ⟨he, hb.trans (h2.mono hb.size)⟩
        have C20 : Hid (∀ W', Below w6.heap.size w6 W' → Calls Tryd.prog 20 #[.pointer (some ⟨rb, 0, none⟩)] W' fun e w' => e = .returned (.int .i64 (r.all.length : Int)) ∧ w' = W') := fun W' hb => by
          rw [RS.all_count HX.out.rol.ok]
          exact rol_count (X5.out.later hb).rol
        have C21 : Hid (∀ W', Below w6.heap.size w6 W' → Calls Tryd.prog 21 #[.pointer (some ⟨rb, 0, none⟩)] W' fun e w' => e = .returned (.int .i64 (n : Int)) ∧ w' = W') := fun W' hb => by
          have h := rol_most (X5.out.later hb).rol
          rw [HX.out.len.1] at h
          exact h
        obtain ⟨bb, hbb⟩ : ∃ bb, bb = r.aliveB ei eg := ⟨_, rfl⟩
        have C15 : Hid (∀ W', Below w6.heap.size w6 W' → Calls Tryd.prog 15 #[.pointer (some ⟨rb, 0, none⟩), .agg #[.int .i64 ei, .int .i64 eg]] W' fun e w' => e = .returned (.bool bb) ∧ Below w6.heap.size w6 w') := fun W' hb => by
          rw [hbb]
          exact (rol_alive (X5.out.later hb).rol ei eg HW.out HG.out).mono fun e w' ⟨he, h2⟩ => ⟨he, hb.trans (h2.mono hb.size)⟩
        have C16 : Hid (∀ W', Below w6.heap.size w6 W' → Calls Tryd.prog 16 #[.pointer (some ⟨ub, 0, none⟩), .agg #[.int .i64 ei, .int .i64 eg]] W' fun e w' => e = .returned (.bool bb) ∧ Below w6.heap.size w6 w') := fun W' hb => by
          rw [hbb]
          exact (rer_alive (X5.out.later hb).ref ei eg).mono fun e w' ⟨he, h2⟩ => ⟨he, hb.trans (h2.mono hb.size)⟩
        have C9 : Hid (∀ W', Below w6.heap.size w6 W' → Calls Tryd.prog 9 #[.iface t5 q5, .iface 91 (.pointer (some (Ad 2)))] W' fun e w' => e = .returned (.bool true) ∧ Below w6.heap.size w6 w') := fun W' hb =>
          (is_err Ad (EE.out W' hb) (V5.out.later hb) (by decide) (by decide)).mono fun e w' ⟨he, h2⟩ => ⟨he, hb.trans (h2.mono hb.size)⟩
        have C9' : Hid (∀ W' tt qq, ErrAt Ad W' (.iface tt qq) bFree 2 → Below w6.heap.size w6 W' → Calls Tryd.prog 9 #[.iface tt qq, .iface 91 (.pointer (some (Ad 2)))] W' fun e w' => e = .returned (.bool true) ∧ Below w6.heap.size w6 w') := fun W' tt qq hv hb =>
          (is_err Ad (EE.out W' hb) hv (by decide) (by decide)).mono fun e w' ⟨he, h2⟩ => ⟨he, hb.trans (h2.mono hb.size)⟩
        have C13 : Hid (∀ W', Below w6.heap.size w6 W' → Calls Tryd.prog 13 #[.pointer none, .agg #[.int .i64 ei, .int .i64 eg]] W' fun e w' => ∃ tt qq, e = .returned (.iface tt qq) ∧ ErrAt Ad w' (.iface tt qq) bFree 2 ∧ Below w6.heap.size w6 w') := fun W' hb =>
          (free_nil Ad W' (EE.out W' hb) ei eg).mono fun e w' ⟨v, he, hv, h2⟩ => by
            obtain ⟨tt, qq, rfl⟩ := hv.shape
            exact ⟨tt, qq, he, hv, hb.trans (h2.mono hb.size)⟩
        have C15n : Hid (∀ W', Below w6.heap.size w6 W' → Calls Tryd.prog 15 #[.pointer none, .agg #[.int .i64 ei, .int .i64 eg]] W' fun e w' => e = .returned (.bool false) ∧ Below w6.heap.size w6 w') := fun W' hb =>
          (alive_nil _ ei eg rfl W').mono fun e w' ⟨he, h2⟩ => ⟨he, hb.trans (h2.mono hb.size)⟩
        have B6 := hid (B1.out.trans (X5.out.bel.mono B1.out.size))
        clear hbb b5 b5' hv5 TN hw6
        have hbq : (bb == bb) = true := by simp
        go_wp2_with fail
        rw [← HW6.out]
        go_region_held3 (fun W' => W'.cell? ⟨w.heap.size, 0, none⟩ = some (.int .i64 ei) ∧ W'.cell? ⟨w.heap.size, 1, none⟩ = some (.int .i64 eg) ∧ W'.cell? ⟨1, 0, none⟩ = some (.iface 91 (.pointer (some (Ad 2)))))
          (first | exact KK.out _ (by assumption) | exact KK.out _ (Below.refl _ _).drew)
          (first
            | (go_at_call_of 19 (Value.pointer (some ⟨rb, 0, none⟩)); refine (C19.out _ (by first | assumption | exact (Below.refl _ _).drew)).mono ?_; rintro e w8 ⟨ka, kc, B8, rfl, hen8, hb8⟩)
            | (go_at_call 18; refine (C18.out _ _ _ _ (by assumption) (by assumption)).mono ?_; rintro e w8 ⟨rfl, hb8⟩)
            | (go_at_call_of 20 (Value.pointer (some ⟨rb, 0, none⟩)); refine (C20.out _ (by assumption)).mono ?_; rintro e w8 ⟨rfl, rfl⟩)
            | (go_at_call_of 21 (Value.pointer (some ⟨rb, 0, none⟩)); refine (C21.out _ (by assumption)).mono ?_; rintro e w8 ⟨rfl, rfl⟩)
            | (go_at_call_of 15 (Value.pointer (some ⟨rb, 0, none⟩)); refine (C15.out _ (by assumption)).mono ?_; rintro e w8 ⟨rfl, hb8⟩)
            | (go_at_call 16; refine (C16.out _ (by assumption)).mono ?_; rintro e w8 ⟨rfl, hb8⟩)
            | (go_at_call_of 9 (Value.iface t5 q5); refine (C9.out _ (by assumption)).mono ?_; rintro e w8 ⟨rfl, hb8⟩)
            | (go_at_call 9; refine (C9'.out _ _ _ (by assumption) (by assumption)).mono ?_; rintro e w8 ⟨rfl, hb8⟩)
            | (go_at_call 13; refine (C13.out _ (by assumption)).mono ?_; rintro e w8 ⟨t8, q8, rfl, hv8, hb8⟩)
            | (go_at_call 15; refine (C15n.out _ (by assumption)).mono ?_; rintro e w8 ⟨rfl, hb8⟩)
            | (go_at_call 20; refine (count_nil _).mono ?_; rintro e w8 ⟨rfl, rfl⟩)
            | (go_at_call 21; refine (most_nil _).mono ?_; rintro e w8 ⟨rfl, rfl⟩)
            | (go_at_call 19; refine (list_nil _).mono ?_; rintro e w8 ⟨rfl, rfl⟩))
        have BF := hid (B6.out.trans (hb8.mono B6.out.size))
        clear KK EE C19 C18 C20 C21 C15 C16 C9 C9' C13 C15n hb8
        go_wp2_with fail
        go_ret
        exact ⟨rfl, BF.out⟩
theorem exact_law (w : World) (Ad : Nat → Addr) (hE : Env w Ad) (pl : Int) (v : Value) (cl : List ActI) (hA : ActRow w v cl) (ei eg : Int) (hei : I64 ei) (heg : I64 eg) :
    Calls Tryd.prog 3 #[.int .i64 pl, v, .agg #[.int .i64 ei, .int .i64 eg]] w fun e w' => e = .returned (.bool true) ∧ Below w.heap.size w w' := by
  by_cases h0 : pl < 0
  · exact exact_low w Ad hE pl h0 v cl hA ei eg
  · by_cases h1 : 64 < pl
    · exact exact_high w Ad hE pl h1 v cl hA ei eg
    · obtain ⟨n, rfl⟩ := Int.eq_ofNat_of_zero_le (show 0 ≤ pl by omega)
      exact exact_in w Ad hE n (by omega) v cl hA ei eg hei heg
end Go.Proofs.YtdpoojopipcffaaDoor
