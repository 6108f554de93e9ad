/- JournalExact: the walk. -/
import Derived.Test.YtnbgjbdbbmpoaaaDoorJoRk
import Derived.Deep.DeepCutAuto
import Derived.Deep.CutRange
import Derived.Deep.CutBlock
namespace Go.Proofs.YtnbgjbdbbmpoaaaDoor.Jo
open Go.RowKit Go.Shelf Go.Maps
theorem Rw.lower {B B' ub most : Nat} {ms : List Int} {es : List En} {W : World} (h : Rw B ub most ms es W) (hB : B' ≤ B) : Rw B' ub most ms es W := by
  obtain ⟨mv, lv, r⟩ := h
  exact ⟨mv, lv, r.box, Nat.le_trans hB r.low, r.marks.lower hB, r.ents.lower hB⟩
theorem bare_ps {l bl : List Ue} (h : l.map Ue.bare = bl.map Ue.bare) (hb : ∀ u ∈ bl, u.ps.length ≤ 1000) : ∀ u ∈ l, u.ps.length ≤ 1000 := by
  intro u hu
  have : u.bare ∈ bl.map Ue.bare := by rw [← h]; exact List.mem_map_of_mem hu
  obtain ⟨x, hx, e⟩ := List.mem_map.1 this
  have e2 : x.ps = u.ps := by have e3 := congrArg Ue.ps e; exact e3
  rw [← e2]
  exact hb x hx
theorem bare_len {l bl : List Ue} (h : l.map Ue.bare = bl.map Ue.bare) : l.length = bl.length := by
  have := congrArg List.length h
  simpa using this
/-- Both journals, and the call that is made. -/
structure Px (W W1 : World) (jb ub most : Nat) (p : List (Int × List Ue)) (ms : List Int) (es : List En) (bx : Nat) (arr : Array Value) (w : World) : Prop where
  x : Ex W W1 jb ub most p ms es w
  a : w.heap[bx]? = some (.cells arr 40 (0, 0))
theorem Px.later {W W1 w w' : World} {jb ub most bx : Nat} {p : List (Int × List Ue)} {ms : List Int} {es : List En} {arr : Array Value} (h : Px W W1 jb ub most p ms es bx arr w) (hb : Below w.heap.size w w') : Px W W1 jb ub most p ms es bx arr w' := ⟨h.x.later hb, blk_seen hb (Nat.le_refl _) h.a⟩
set_option maxHeartbeats 12800000 in
set_option maxRecDepth 100000 in
theorem exact_law (W : World) (Ad : Nat → Addr) (hE : Env W Ad) (n : Int) (av : Value) (xs : List ActI) (hA : ActRow W av xs) :
    Calls Tryd.prog 3 #[.int .i64 n, av] W fun e W' => e = .returned (.bool true) ∧ Below W.heap.size W W' := by
  have AW := hid (awake_any Ad W hE.eight)
  have HE := hid hE
  have HA := hid hA
  obtain ⟨ca0, cc0, rfl, -⟩ := hA
  clear hE
  go_enter Tryd.func3, Tryd.ntmps3
  go_wp2_with fail
  refine AW.out.mono ?_
  rintro e w1 ⟨rfl, b1⟩
  have B1 := hid b1
  have GR := hid (great_any w1 _ xs (HA.out.later b1))
  clear AW b1
  go_wp2_with fail
  refine GR.out.mono ?_
  rintro e w2 ⟨⟨gb, rfl, hg⟩, hq⟩
  subst hq
  have HG := hid hg
  clear GR hg
  cases gb with
  | true =>
    go_wp2_with fail
    go_ret
    exact ⟨rfl, B1.out⟩
  | false =>
  by_cases hn : n < 1 ∨ 65536 < n
  · have E1 := hid (HE.out.eight.later B1.out)
    have NB := hid (new_bad E1.out n hn)
    have HN := hid hn
    clear hn
    go_wp2_with fail
    refine NB.out.mono ?_
    rintro e w3 ⟨t, v, rfl, hv, b3⟩
    have V3 := hid hv
    have B3 := hid b3
    have RB := hid (rnew_bad n HN.out w3)
    clear NB hv b3
    go_wp2_with fail
    refine RB.out.mono ?_
    rintro e w4 ⟨rfl, hq⟩
    subst hq
    have E3 := hid (E1.out.later B3.out)
    have k1 := E3.out.k1
    have IS := hid (is_err Ad (k := 1) E3.out V3.out (by decide) (by decide))
    have Z3 := hid (B1.out.trans (B3.out.mono B1.out.size))
    clear RB E1 B3
    go_wp2_with fail
    refine IS.out.mono ?_
    rintro e w5 ⟨rfl, b5⟩
    have Z5 := hid (Z3.out.trans (b5.mono Z3.out.size))
    clear IS b5 k1
    go_wp2_with fail
    go_ret
    exact ⟨rfl, Z5.out⟩
  obtain ⟨most, rfl⟩ : ∃ most : Nat, n = (most : Int) := ⟨n.toNat, by omega⟩
  have hm1 : 1 ≤ most := by omega
  have hm2 : most ≤ 65536 := by omega
  have NW := hid (wj_new w2 most hm1 hm2)
  clear hn
  go_wp2_with fail
  refine NW.out.mono ?_
  rintro e w3 ⟨rfl, h3⟩
  have J3 := hid h3
  have RN := hid (rnew_ok w3 most hm1 hm2)
  clear NW h3
  go_wp2_with fail
  refine RN.out.mono ?_
  rintro e w4 ⟨rfl, r4, b4⟩
  obtain ⟨ub, hub⟩ : ∃ ub, ub = w3.heap.size := ⟨_, rfl⟩
  rw [← hub] at r4 ⊢
  have X4 : Hid (Ex W w2 w2.heap.size ub most [] [] [] w4) := ⟨J3.out.later b4, r4.lower (by rw [hub]; exact (J3.out.base (Nat.le_refl _)).size), B1.out.trans (((J3.out.later b4).base (Nat.le_refl _)).mono B1.out.size)⟩
  have F4 : Hid (Fx W w2 w2.heap.size most [] [] [] 0) := ⟨B1.out, Nat.le_refl _, rel_nil, fun e he => by simp at he, by simp, by omega⟩
  clear RN r4 b4 J3 hub hm1 hm2
  go_wp2_with fail
  go_loopg [8, 9, 10, 11, 12, 13] 150 (fun gh s8 _ _ _ _ _ wr => ∃ q : Nat, q ≤ 150 ∧ gh = 150 - q ∧ s8 = .int .i64 (q : Int) ∧ ∃ (p : List (Int × List Ue)) (ms : List Int) (es : List En), Hid (Ex W w2 w2.heap.size ub most p ms es wr) ∧ Hid (Fx W w2 w2.heap.size most p ms es q) ∧ Hid (es.length ≤ q))
  case atStart => exact ⟨0, by omega, rfl, rfl, [], [], [], X4.out, F4.out, Nat.le_refl _⟩
  case round =>
    clear X4 F4
    rename World => wr
    obtain ⟨q, hq, rfl, rfl, p, ms, es, HX, HF, HL⟩ := hrel
    by_cases h1 : q < xs.length
    · have h1i : (q : Int) < (xs.length : Int) := by omega
      by_cases h2 : q < 150
      · have h2i : (q : Int) < 150 := by omega
        obtain ⟨x, hx⟩ := at_lt xs q h1
        obtain ⟨hui, -, b, o, rfl, dd⟩ := (HA.out.later HX.out.bel).at hx
        have hps := HG.out rfl q x h2 hx
        obtain ⟨hu0, -, -⟩ := HA.out.at hx
        have UX := hid hu0
        have HPS := hid hps
        obtain ⟨pa, pn, pc, hpv⟩ : ∃ pa pn pc, x.u.pv = .slice pa pn pc := hu0.2.form
        have d0 : wr.cell? ⟨b, o + q * 13, none⟩ = some (.int .i64 x.kd) := dd 0 (by decide)
        have d1 : wr.cell? ⟨b, o + q * 13 + 1, none⟩ = some (.int .i64 x.n) := dd 1 (by decide)
        have d2 : wr.cell? ⟨b, o + q * 13 + 2, none⟩ = some (.int .i64 x.u.k) := dd 2 (by decide)
        have d3 : wr.cell? ⟨b, o + q * 13 + 3, none⟩ = some (.int .i64 x.u.id) := dd 3 (by decide)
        have d4 : wr.cell? ⟨b, o + q * 13 + 4, none⟩ = some (.int .i64 x.u.p.c) := dd 4 (by decide)
        have d5 : wr.cell? ⟨b, o + q * 13 + 5, none⟩ = some (.int .i64 x.u.p.v0) := dd 5 (by decide)
        have d6 : wr.cell? ⟨b, o + q * 13 + 6, none⟩ = some (.int .i64 x.u.p.v1) := dd 6 (by decide)
        have d7 : wr.cell? ⟨b, o + q * 13 + 7, none⟩ = some (.int .i64 x.u.p.v2) := dd 7 (by decide)
        have d8 : wr.cell? ⟨b, o + q * 13 + 8, none⟩ = some (.int .i64 x.u.p.v3) := dd 8 (by decide)
        have d9 : wr.cell? ⟨b, o + q * 13 + 9, none⟩ = some (.int .i64 x.u.p.t) := dd 9 (by decide)
        have d10 : wr.cell? ⟨b, o + q * 13 + 10, none⟩ = some (.slice pa pn pc) := by rw [← hpv]; exact dd 10 (by decide)
        have d11 : wr.cell? ⟨b, o + q * 13 + 11, none⟩ = some (.int .i64 x.u.n) := dd 11 (by decide)
        have d12 : wr.cell? ⟨b, o + q * 13 + 12, none⟩ = some (.int .i64 x.u.o) := dd 12 (by decide)
        obtain ⟨w4, hw4⟩ : ∃ w4, w4 = ((wr.alloc (.cells #[.int .i64 x.kd, .int .i64 x.n, .int .i64 x.u.k, .int .i64 x.u.id, .int .i64 x.u.p.c, .int .i64 x.u.p.v0, .int .i64 x.u.p.v1, .int .i64 x.u.p.v2, .int .i64 x.u.p.v3, .int .i64 x.u.p.t, .slice pa pn pc, .int .i64 x.u.n, .int .i64 x.u.o] 40)).alloc (.cells #[] 38)).alloc (.cells #[] 38) := ⟨_, rfl⟩
        obtain ⟨bx, hbx⟩ : ∃ bx, bx = wr.heap.size := ⟨_, rfl⟩
        have q1 := bAl wr (.cells #[.int .i64 x.kd, .int .i64 x.n, .int .i64 x.u.k, .int .i64 x.u.id, .int .i64 x.u.p.c, .int .i64 x.u.p.v0, .int .i64 x.u.p.v1, .int .i64 x.u.p.v2, .int .i64 x.u.p.v3, .int .i64 x.u.p.t, .slice pa pn pc, .int .i64 x.u.n, .int .i64 x.u.o] 40)
        have q2 := bAl (wr.alloc (.cells #[.int .i64 x.kd, .int .i64 x.n, .int .i64 x.u.k, .int .i64 x.u.id, .int .i64 x.u.p.c, .int .i64 x.u.p.v0, .int .i64 x.u.p.v1, .int .i64 x.u.p.v2, .int .i64 x.u.p.v3, .int .i64 x.u.p.t, .slice pa pn pc, .int .i64 x.u.n, .int .i64 x.u.o] 40)) (.cells #[] 38)
        have q3 := bAl ((wr.alloc (.cells #[.int .i64 x.kd, .int .i64 x.n, .int .i64 x.u.k, .int .i64 x.u.id, .int .i64 x.u.p.c, .int .i64 x.u.p.v0, .int .i64 x.u.p.v1, .int .i64 x.u.p.v2, .int .i64 x.u.p.v3, .int .i64 x.u.p.t, .slice pa pn pc, .int .i64 x.u.n, .int .i64 x.u.o] 40)).alloc (.cells #[] 38)) (.cells #[] 38)
        have b4 : Below wr.heap.size wr w4 := by rw [hw4]; exact (q1.trans (q2.mono q1.size)).trans (q3.mono (Nat.le_trans q1.size q2.size))
        have A4 : w4.heap[bx]? = some (.cells #[.int .i64 x.kd, .int .i64 x.n, .int .i64 x.u.k, .int .i64 x.u.id, .int .i64 x.u.p.c, .int .i64 x.u.p.v0, .int .i64 x.u.p.v1, .int .i64 x.u.p.v2, .int .i64 x.u.p.v3, .int .i64 x.u.p.t, .slice pa pn pc, .int .i64 x.u.n, .int .i64 x.u.o] 40 (0, 0)) := by
          rw [hw4, hbx]
          exact blk_seen q3 (Nat.le_refl _) (blk_seen q2 (Nat.le_refl _) (heap_alloc_new wr _))
        have X4 := hid (HX.out.later b4)
        have HA4 := hid A4
        have HW4 := hid hw4
        have HBX := hid hbx
        clear q1 q2 q3 hw4 hbx hx dd hui hu0 hps b4
        go_upto_region 19 with fail
        rw [← HW4.out, ← HBX.out]
        clear HW4 d0 d1 d2 d3 d4 d5 d6 d7 d8 d9 d10 d11 d12 HX
        have y0 := cell_blk (j := 0) A4 rfl
        clear A4
        go_upto_block 2 with fail
        go_cut [10, 11, 12, 13] from 40 to 156 (fun s10 s11 s12 s13 wx => ∃ (k : Nat) (la lb : Option Addr) (na ca cb : Nat) (l bl : List Ue) (p : List (Int × List Ue)) (ms : List Int) (es : List En), s11 = .int .i64 (k : Int) ∧ s12 = .slice la na ca ∧ s13 = .slice lb na cb ∧ Hid (FE Ad wx s10 k) ∧ Hid (UR wx (.slice la na ca) l) ∧ Hid (UR wx (.slice lb na cb) bl) ∧ Hid (l.map Ue.bare = bl.map Ue.bare ∧ l.length ≤ 150 ∧ ∀ u ∈ l, u.ps.length ≤ 1000) ∧ Hid (Ex W w2 w2.heap.size ub most p ms es wx) ∧ Hid (Fx W w2 w2.heap.size most p ms es (q + 1)) ∧ Hid (es.length ≤ q + 1) ∧ Hid (wx.heap[bx]? = some (.cells #[.int .i64 x.kd, .int .i64 x.n, .int .i64 x.u.k, .int .i64 x.u.id, .int .i64 x.u.p.c, .int .i64 x.u.p.v0, .int .i64 x.u.p.v1, .int .i64 x.u.p.v2, .int .i64 x.u.p.v3, .int .i64 x.u.p.t, .slice pa pn pc, .int .i64 x.u.n, .int .i64 x.u.o] 40 (0, 0))))
        case first =>
          have AC : Hid (∀ w' : World, w'.heap[bx]? = some (.cells #[.int .i64 x.kd, .int .i64 x.n, .int .i64 x.u.k, .int .i64 x.u.id, .int .i64 x.u.p.c, .int .i64 x.u.p.v0, .int .i64 x.u.p.v1, .int .i64 x.u.p.v2, .int .i64 x.u.p.v3, .int .i64 x.u.p.t, .slice pa pn pc, .int .i64 x.u.n, .int .i64 x.u.o] 40 (0, 0)) → w'.cell? ⟨bx, 1, none⟩ = some (.int .i64 x.n) ∧ w'.cell? ⟨bx, 2, none⟩ = some (.int .i64 x.u.k) ∧ w'.cell? ⟨bx, 3, none⟩ = some (.int .i64 x.u.id) ∧ w'.cell? ⟨bx, 4, none⟩ = some (.int .i64 x.u.p.c) ∧ w'.cell? ⟨bx, 5, none⟩ = some (.int .i64 x.u.p.v0) ∧ w'.cell? ⟨bx, 6, none⟩ = some (.int .i64 x.u.p.v1) ∧ w'.cell? ⟨bx, 7, none⟩ = some (.int .i64 x.u.p.v2) ∧ w'.cell? ⟨bx, 8, none⟩ = some (.int .i64 x.u.p.v3) ∧ w'.cell? ⟨bx, 9, none⟩ = some (.int .i64 x.u.p.t) ∧ w'.cell? ⟨bx, 10, none⟩ = some (.slice pa pn pc) ∧ w'.cell? ⟨bx, 11, none⟩ = some (.int .i64 x.u.n) ∧ w'.cell? ⟨bx, 12, none⟩ = some (.int .i64 x.u.o)) := fun w' h => ⟨cell_blk (j := 1) h rfl, cell_blk (j := 2) h rfl, cell_blk (j := 3) h rfl, cell_blk (j := 4) h rfl, cell_blk (j := 5) h rfl, cell_blk (j := 6) h rfl, cell_blk (j := 7) h rfl, cell_blk (j := 8) h rfl, cell_blk (j := 9) h rfl, cell_blk (j := 10) h rfl, cell_blk (j := 11) h rfl, cell_blk (j := 12) h rfl⟩
          obtain ⟨y1, y2, y3, y4, y5, y6, y7, y8, y9, y10, y11, y12⟩ := AC.out w4 HA4.out
          by_cases hk1 : x.kd = 1
          · have g1 : (x.kd == 1) = true := by simp [hk1]
            obtain ⟨k, p', ms', hF, hP, hR⟩ := both_mark X4.out HF.out h2 HE.out.eight x.n
            have FF := hid hF
            have PP := hid hP
            have RR := hid hR
            clear hk1 hF hP hR
            go_wp2_with fail
            refine PP.out.mono ?_
            rintro e w5 ⟨ev, rfl, hf5, hx5, hk5⟩
            have A5 := hk5 _ _ HA4.out
            have HA5 := hid A5
            obtain ⟨z1, z2, z3, z4, z5, z6, z7, z8, z9, z10, z11, z12⟩ := AC.out w5 A5
            have F5 := hid hf5
            have R5 := hid (RR.out w5 hx5)
            clear PP RR hf5 hx5 hk5 A5 y0 y1 y2 y3 y4 y5 y6 y7 y8 y9 y10 y11 y12
            go_wp2_with fail
            refine R5.out.mono ?_
            rintro e w6 ⟨rfl, hx6, hk6, hf6⟩
            have FX := hid (hf6 _ _ F5.out)
            have XX := hid hx6
            have AX := hid (hk6 _ _ HA5.out)
            clear R5 hx6 hk6 hf6 F5 z1 z2 z3 z4 z5 z6 z7 z8 z9 z10 z11 z12
            go_wp2_with fail
            go_meet
            exact ⟨k, _, _, 0, 0, 0, [], [], p', ms', es, rfl, rfl, rfl, FX.out, ur_nil _ _ _, ur_nil _ _ _, ⟨rfl, by simp, fun u hu => by simp at hu⟩, XX.out, FF.out, Nat.le_succ_of_le HL.out, AX.out⟩
          have g1 : (x.kd == 1) = false := by simp [hk1]
          clear hk1
          by_cases hk2 : x.kd = 2
          · have g2 : (x.kd == 2) = true := by simp [hk2]
            obtain ⟨k, p', es', hF, hL, hP, hR⟩ := both_note X4.out HF.out HL.out h2 HE.out.eight x.u UX.out (by have := HPS.out; omega)
            rw [hpv] at hP hR
            have FF := hid hF
            have LL := hid hL
            have PP := hid hP
            have RR := hid hR
            clear hk2 hF hL hP hR
            go_wp2_with fail
            refine PP.out.mono ?_
            rintro e w5 ⟨ev, rfl, hf5, hx5, hk5⟩
            have A5 := hk5 _ _ HA4.out
            have HA5 := hid A5
            obtain ⟨z1, z2, z3, z4, z5, z6, z7, z8, z9, z10, z11, z12⟩ := AC.out w5 A5
            have F5 := hid hf5
            have R5 := hid (RR.out w5 hx5)
            clear PP RR hf5 hx5 hk5 A5 y0 y1 y2 y3 y4 y5 y6 y7 y8 y9 y10 y11 y12
            go_wp2_with fail
            refine R5.out.mono ?_
            rintro e w6 ⟨rfl, hx6, hk6, hf6⟩
            have FX := hid (hf6 _ _ F5.out)
            have XX := hid hx6
            have AX := hid (hk6 _ _ HA5.out)
            clear R5 hx6 hk6 hf6 F5 z1 z2 z3 z4 z5 z6 z7 z8 z9 z10 z11 z12
            go_wp2_with fail
            go_meet
            exact ⟨k, _, _, 0, 0, 0, [], [], p', ms, es', rfl, rfl, rfl, FX.out, ur_nil _ _ _, ur_nil _ _ _, ⟨rfl, by simp, fun u hu => by simp at hu⟩, XX.out, FF.out, LL.out, AX.out⟩
          have g2 : (x.kd == 2) = false := by simp [hk2]
          clear hk2
          by_cases hk3 : x.kd = 3
          · have g3 : (x.kd == 3) = true := by simp [hk3]
            obtain ⟨k, bl, hbm, hbn, hP, hR⟩ := both_since X4.out HF.out HL.out HE.out.eight x.n
            have BM := hid hbm
            have BN := hid hbn
            have PP := hid hP
            have RR := hid hR
            clear hk3 hbm hbn hP hR
            go_wp2_with fail
            refine PP.out.mono ?_
            rintro e w5 ⟨lv, ev, rfl, hf5, ⟨l, hu5, hl5⟩, hx5, hk5⟩
            have A5 := hk5 _ _ HA4.out
            have HA5 := hid A5
            obtain ⟨z1, z2, z3, z4, z5, z6, z7, z8, z9, z10, z11, z12⟩ := AC.out w5 A5
            have F5 := hid hf5
            have U5 := hid hu5
            have L5 := hid hl5
            have R5 := hid (RR.out w5 hx5)
            obtain ⟨la, na, ca, rfl⟩ : ∃ a n c, lv = .slice a n c := by
              obtain ⟨a, c, e⟩ := hu5.ur.form
              exact ⟨a, _, c, e⟩
            clear PP RR hf5 hx5 hk5 A5 hu5 hl5 y0 y1 y2 y3 y4 y5 y6 y7 y8 y9 y10 y11 y12
            go_wp2_with fail
            refine R5.out.mono ?_
            rintro e w6 ⟨bv, rfl, hb6, hx6, hk6, hf6, ha6⟩
            obtain ⟨lb, nb, cb, rfl⟩ : ∃ a n c, bv = .slice a n c := by
              obtain ⟨B, hb⟩ := hb6
              exact own_form hb.1
            have FX := hid (hf6 _ _ F5.out)
            have XX := hid hx6
            have AX := hid (hk6 _ _ HA5.out)
            have UA := hid (ha6 _ _ U5.out).ur
            have UB : Hid (UR w6 (.slice lb nb cb) bl) := by
              obtain ⟨B, hb⟩ := hb6
              exact hb.ur fun u hu => by
                obtain ⟨e, he, rfl⟩ := BM.out u hu
                exact (((HF.out.inp e he).1.2).later hx6.bel).row
            have hnn : na = nb := by
              obtain ⟨a1, c1, e1⟩ := UA.out.form
              obtain ⟨a2, c2, e2⟩ := UB.out.form
              have := slice_len e1
              have := slice_len e2
              have := bare_len L5.out
              omega
            subst hnn
            have FL : Hid (l.map Ue.bare = bl.map Ue.bare ∧ l.length ≤ 150 ∧ ∀ u ∈ l, u.ps.length ≤ 1000) := ⟨L5.out, by have := bare_len L5.out; have := BN.out; omega, bare_ps L5.out fun u hu => by
              obtain ⟨e, he, rfl⟩ := BM.out u hu
              exact (HF.out.inp e he).2⟩
            clear R5 hx6 hk6 hf6 ha6 hb6 F5 U5 L5 z1 z2 z3 z4 z5 z6 z7 z8 z9 z10 z11 z12
            go_wp2_with fail
            go_meet
            exact ⟨k, _, _, _, _, _, l, bl, p, ms, es, rfl, rfl, rfl, FX.out, UA.out, UB.out, FL.out, XX.out, ⟨HF.out.base, HF.out.lo, HF.out.rel, HF.out.inp, Nat.le_succ_of_le HF.out.few, by omega⟩, Nat.le_succ_of_le HL.out, AX.out⟩
          have g3 : (x.kd == 3) = false := by simp [hk3]
          clear hk3
          by_cases hk4 : x.kd = 4
          · have g4 : (x.kd == 4) = true := by simp [hk4]
            obtain ⟨k, bl, p', ms', es', hbm, hbn, hF, hL, hP, hR⟩ := both_back X4.out HF.out HL.out h2 HE.out.eight x.n
            have FF := hid hF
            have LL := hid hL
            clear hF hL
            have BM := hid hbm
            have BN := hid hbn
            have PP := hid hP
            have RR := hid hR
            clear hk4 hbm hbn hP hR
            go_wp2_with fail
            refine PP.out.mono ?_
            rintro e w5 ⟨lv, ev, rfl, hf5, ⟨l, hu5, hl5⟩, hx5, hk5⟩
            have A5 := hk5 _ _ HA4.out
            have HA5 := hid A5
            obtain ⟨z1, z2, z3, z4, z5, z6, z7, z8, z9, z10, z11, z12⟩ := AC.out w5 A5
            have F5 := hid hf5
            have U5 := hid hu5
            have L5 := hid hl5
            have R5 := hid (RR.out w5 hx5)
            obtain ⟨la, na, ca, rfl⟩ : ∃ a n c, lv = .slice a n c := by
              obtain ⟨a, c, e⟩ := hu5.ur.form
              exact ⟨a, _, c, e⟩
            clear PP RR hf5 hx5 hk5 A5 hu5 hl5 y0 y1 y2 y3 y4 y5 y6 y7 y8 y9 y10 y11 y12
            go_wp2_with fail
            refine R5.out.mono ?_
            rintro e w6 ⟨bv, rfl, hb6, hx6, hk6, hf6, ha6⟩
            obtain ⟨lb, nb, cb, rfl⟩ : ∃ a n c, bv = .slice a n c := by
              obtain ⟨B, hb⟩ := hb6
              exact own_form hb.1
            have FX := hid (hf6 _ _ F5.out)
            have XX := hid hx6
            have AX := hid (hk6 _ _ HA5.out)
            have UA := hid (ha6 _ _ U5.out).ur
            have UB : Hid (UR w6 (.slice lb nb cb) bl) := by
              obtain ⟨B, hb⟩ := hb6
              exact hb.ur fun u hu => by
                obtain ⟨e, he, rfl⟩ := BM.out u hu
                exact (((HF.out.inp e he).1.2).later hx6.bel).row
            have hnn : na = nb := by
              obtain ⟨a1, c1, e1⟩ := UA.out.form
              obtain ⟨a2, c2, e2⟩ := UB.out.form
              have := slice_len e1
              have := slice_len e2
              have := bare_len L5.out
              omega
            subst hnn
            have FL : Hid (l.map Ue.bare = bl.map Ue.bare ∧ l.length ≤ 150 ∧ ∀ u ∈ l, u.ps.length ≤ 1000) := ⟨L5.out, by have := bare_len L5.out; have := BN.out; omega, bare_ps L5.out fun u hu => by
              obtain ⟨e, he, rfl⟩ := BM.out u hu
              exact (HF.out.inp e he).2⟩
            clear R5 hx6 hk6 hf6 ha6 hb6 F5 U5 L5 z1 z2 z3 z4 z5 z6 z7 z8 z9 z10 z11 z12
            go_wp2_with fail
            go_meet
            exact ⟨k, _, _, _, _, _, l, bl, p', ms', es', rfl, rfl, rfl, FX.out, UA.out, UB.out, FL.out, XX.out, FF.out, LL.out, AX.out⟩
          have g4 : (x.kd == 4) = false := by simp [hk4]
          clear hk4
          obtain ⟨nf, p', ms', es', hF, hL, hP, hR⟩ := both_forget X4.out HF.out HL.out h2 x.n
          have FF := hid hF
          have LL := hid hL
          have PP := hid hP
          have RR := hid hR
          have CP : Hid (∀ W', Px W w2 w2.heap.size ub most p ms es bx #[.int .i64 x.kd, .int .i64 x.n, .int .i64 x.u.k, .int .i64 x.u.id, .int .i64 x.u.p.c, .int .i64 x.u.p.v0, .int .i64 x.u.p.v1, .int .i64 x.u.p.v2, .int .i64 x.u.p.v3, .int .i64 x.u.p.t, .slice pa pn pc, .int .i64 x.u.n, .int .i64 x.u.o] W' → Calls Tryd.prog 20 #[.pointer (some ⟨w2.heap.size, 0, none⟩), .int .i64 x.n] W' fun e w => e = .returned (.int .i64 nf) ∧ Px W w2 w2.heap.size ub most p' ms es bx #[.int .i64 x.kd, .int .i64 x.n, .int .i64 x.u.k, .int .i64 x.u.id, .int .i64 x.u.p.c, .int .i64 x.u.p.v0, .int .i64 x.u.p.v1, .int .i64 x.u.p.v2, .int .i64 x.u.p.v3, .int .i64 x.u.p.t, .slice pa pn pc, .int .i64 x.u.n, .int .i64 x.u.o] w) := fun W' hw => (PP.out W' hw.x).mono fun _ _ z => ⟨z.1, z.2.1, z.2.2 _ _ hw.a⟩
          have CR : Hid (∀ W', Px W w2 w2.heap.size ub most p' ms es bx #[.int .i64 x.kd, .int .i64 x.n, .int .i64 x.u.k, .int .i64 x.u.id, .int .i64 x.u.p.c, .int .i64 x.u.p.v0, .int .i64 x.u.p.v1, .int .i64 x.u.p.v2, .int .i64 x.u.p.v3, .int .i64 x.u.p.t, .slice pa pn pc, .int .i64 x.u.n, .int .i64 x.u.o] W' → Calls Tryd.prog 21 #[.pointer (some ⟨ub, 0, none⟩), .int .i64 x.n] W' fun e w => e = .returned (.int .i64 nf) ∧ Px W w2 w2.heap.size ub most p' ms' es' bx #[.int .i64 x.kd, .int .i64 x.n, .int .i64 x.u.k, .int .i64 x.u.id, .int .i64 x.u.p.c, .int .i64 x.u.p.v0, .int .i64 x.u.p.v1, .int .i64 x.u.p.v2, .int .i64 x.u.p.v3, .int .i64 x.u.p.t, .slice pa pn pc, .int .i64 x.u.n, .int .i64 x.u.o] w) := fun W' hw => (RR.out W' hw.x).mono fun _ _ z => ⟨z.1, z.2.1, z.2.2 _ _ hw.a⟩
          have P4 : Hid (∀ W', Below w4.heap.size w4 W' → Px W w2 w2.heap.size ub most p ms es bx #[.int .i64 x.kd, .int .i64 x.n, .int .i64 x.u.k, .int .i64 x.u.id, .int .i64 x.u.p.c, .int .i64 x.u.p.v0, .int .i64 x.u.p.v1, .int .i64 x.u.p.v2, .int .i64 x.u.p.v3, .int .i64 x.u.p.t, .slice pa pn pc, .int .i64 x.u.n, .int .i64 x.u.o] W') := fun W' hb => Px.later ⟨X4.out, HA4.out⟩ hb
          have KA : Hid (∀ a1 a2 a3 W', Px W w2 w2.heap.size ub most a1 a2 a3 bx #[.int .i64 x.kd, .int .i64 x.n, .int .i64 x.u.k, .int .i64 x.u.id, .int .i64 x.u.p.c, .int .i64 x.u.p.v0, .int .i64 x.u.p.v1, .int .i64 x.u.p.v2, .int .i64 x.u.p.v3, .int .i64 x.u.p.t, .slice pa pn pc, .int .i64 x.u.n, .int .i64 x.u.o] W' → W'.cell? ⟨bx, 1, none⟩ = some (.int .i64 x.n)) := fun a1 a2 a3 W' hw => (AC.out W' hw.a).1
          clear hF hL hP hR PP RR
          go_upto_region 20 with fail
          go_region_held3 (fun W' => W'.cell? ⟨bx, 1, none⟩ = some (.int .i64 x.n))
            (first | exact KA.out _ _ _ _ (by assumption) | exact KA.out _ _ _ _ (P4.out _ (Below.refl _ _).drew) | exact KA.out _ _ _ _ (P4.out _ (Below.refl _ _)))
            (first
              | (go_at_call 20; refine (CP.out _ (by first | exact P4.out _ (Below.refl _ _).drew | exact P4.out _ (Below.refl _ _))).mono ?_; rintro e w5 ⟨rfl, hx5⟩)
              | (go_at_call 21; refine (CR.out _ (by first | assumption)).mono ?_; rintro e w6 ⟨rfl, hx6⟩))
          all_goals
            have XX := hid hx6
            clear CP CR P4 KA hx5 hx6 y0 y1 y2 y3 y4 y5 y6 y7 y8 y9 y10 y11 y12
            go_wp2_with fail
            go_meet
            exact ⟨0, _, _, 0, 0, 0, [], [], p', ms', es', rfl, rfl, rfl, .inl ⟨rfl, rfl⟩, ur_nil _ _ _, ur_nil _ _ _, ⟨rfl, by simp, fun u hu => by simp at hu⟩, XX.out.x, FF.out, LL.out, XX.out.a⟩
        case rest =>
          rename World => wx
          obtain ⟨k, la, lb, na, ca, cb, l, bl, p', ms', es', rfl, rfl, rfl, FX, UA, UB, FL, XX, FF, LL, AX⟩ := hcut
          obtain ⟨mv, lv, r⟩ := XX.out.r
          obtain ⟨am, cm, hmv⟩ := r.marks.slice
          obtain ⟨al, cl, hlv⟩ := r.ents.slice
          subst hmv hlv
          have hT := FF.out.rel.tot
          obtain ⟨T, hTT⟩ : ∃ T, es'.length = T := ⟨_, rfl⟩
          obtain ⟨nm, hnm⟩ : ∃ nm, ms'.length = nm := ⟨_, rfl⟩
          rw [hTT, hnm] at r
          have RX := hid r
          have KK : Hid (∀ W', Below wx.heap.size wx W' → W'.cell? ⟨ub, 1, none⟩ = some (.slice am nm cm) ∧ W'.cell? ⟨ub, 2, none⟩ = some (.slice al T cl) ∧ W'.cell? ⟨bx, 2, none⟩ = some (.int .i64 x.u.k) ∧ W'.cell? ⟨bx, 3, none⟩ = some (.int .i64 x.u.id) ∧ W'.cell? ⟨bx, 4, none⟩ = some (.int .i64 x.u.p.c) ∧ W'.cell? ⟨bx, 5, none⟩ = some (.int .i64 x.u.p.v0) ∧ W'.cell? ⟨bx, 6, none⟩ = some (.int .i64 x.u.p.v1) ∧ W'.cell? ⟨bx, 7, none⟩ = some (.int .i64 x.u.p.v2) ∧ W'.cell? ⟨bx, 8, none⟩ = some (.int .i64 x.u.p.v3) ∧ W'.cell? ⟨bx, 9, none⟩ = some (.int .i64 x.u.p.t) ∧ W'.cell? ⟨bx, 10, none⟩ = some (.slice pa pn pc) ∧ W'.cell? ⟨bx, 11, none⟩ = some (.int .i64 x.u.n) ∧ W'.cell? ⟨bx, 12, none⟩ = some (.int .i64 x.u.o)) := fun W' hb => by
            have r2 := RX.out.later hb
            have a2 := blk_seen hb (Nat.le_refl _) AX.out
            exact ⟨r2.c1, r2.c2, cell_blk (j := 2) a2 rfl, cell_blk (j := 3) a2 rfl, cell_blk (j := 4) a2 rfl, cell_blk (j := 5) a2 rfl, cell_blk (j := 6) a2 rfl, cell_blk (j := 7) a2 rfl, cell_blk (j := 8) a2 rfl, cell_blk (j := 9) a2 rfl, cell_blk (j := 10) a2 rfl, cell_blk (j := 11) a2 rfl, cell_blk (j := 12) a2 rfl⟩
          have CA : Hid (∀ W', Below wx.heap.size wx W' → Calls Tryd.prog 22 #[.slice la na ca, .slice lb na cb] W' fun e w => e = .returned (.bool true) ∧ Below wx.heap.size wx w) := fun W' hb => (alike_ur W' _ _ l bl (UA.out.later hb) (UB.out.later hb) FL.out.1 (by have := FL.out.2.1; omega) FL.out.2.2).mono fun _ _ z => ⟨z.1, hb.trans (z.2.mono hb.size)⟩
          have CN : Hid (∀ W', Below wx.heap.size wx W' → Calls Tryd.prog 23 #[u10] W' fun e w => e = .returned (.int .i64 (k : Int)) ∧ Below wx.heap.size wx w) := fun W' hb => (num_fe ((HE.out.later XX.out.bel).later hb) (FX.out.later hb)).mono fun _ _ z => ⟨z.1, hb.trans (z.2.mono hb.size)⟩
          have CL : Hid (∀ W', Below wx.heap.size wx W' → Calls Tryd.prog 24 #[.pointer (some ⟨w2.heap.size, 0, none⟩)] W' fun e w => e = .returned (.int .i64 (T : Int)) ∧ Below wx.heap.size wx w) := fun W' hb => by
            refine (wj_len (XX.out.j.later hb)).mono ?_
            rintro e w ⟨rfl, rfl⟩
            exact ⟨by rw [← hT, hTT], hb⟩
          have CS4 : Hid (∀ v W', Below wx.heap.size wx W' → IRow W' v ms' → Calls Tryd.prog 25 #[v, .slice am nm cm] W' fun e w => e = .returned (.bool true) ∧ Below wx.heap.size wx w) := fun v W' hb hi => by
            have h2 := irow_of (RX.out.later hb).marks
            exact (same4_any W' v _ ms' hi h2 (by rw [FF.out.rel.len]; have := FF.out.few; omega)).mono fun _ _ z => ⟨z.1, hb.trans (z.2.mono hb.size)⟩
          have CM : Hid (∀ W', Below wx.heap.size wx W' → Calls Tryd.prog 26 #[.pointer (some ⟨w2.heap.size, 0, none⟩)] W' fun e w => (∃ a n c, e = .returned (.slice a n c) ∧ Hid (∀ W'', Below w.heap.size w W'' → Calls Tryd.prog 25 #[.slice a n c, .slice am nm cm] W'' fun e w => e = .returned (.bool true) ∧ Below wx.heap.size wx w)) ∧ Below wx.heap.size wx w) := fun W' hb => by
            refine (wj_marks (XX.out.j.later hb) (by have := FF.out.few; omega)).mono ?_
            rintro e w ⟨v, rfl, hv, hb2⟩
            obtain ⟨a, n, c, rfl⟩ := own_form hv
            have hb3 := hb.trans (hb2.mono hb.size)
            exact ⟨⟨a, n, c, rfl, fun W'' hb4 => CS4.out _ W'' (hb3.trans (hb4.mono hb3.size)) (by rw [FF.out.rel.marks]; exact irow_of (hv.later hb4))⟩, hb3⟩
          have CJ : Hid (∀ W', Below wx.heap.size wx W' → Calls Tryd.prog 27 #[.agg #[.int .i64 x.u.k, .int .i64 x.u.id, .int .i64 x.u.p.c, .int .i64 x.u.p.v0, .int .i64 x.u.p.v1, .int .i64 x.u.p.v2, .int .i64 x.u.p.v3, .int .i64 x.u.p.t, .slice pa pn pc, .int .i64 x.u.n, .int .i64 x.u.o], .agg #[.int .i64 x.u.k, .int .i64 x.u.id, .int .i64 x.u.p.c, .int .i64 x.u.p.v0, .int .i64 x.u.p.v1, .int .i64 x.u.p.v2, .int .i64 x.u.p.v3, .int .i64 x.u.p.t, .slice pa pn pc, .int .i64 x.u.n, .int .i64 x.u.o]] W' fun e w => e = .returned (.bool true) ∧ Below wx.heap.size wx w) := fun W' hb => by
            have hp := (UX.out.2.later (XX.out.bel.trans (hb.mono XX.out.bel.size))).row
            have := jsame_any W' x.u x.u.pv hp hp (by have := HPS.out; omega)
            rw [hpv] at this
            exact this.mono fun _ _ z => ⟨z.1, hb.trans (z.2.mono hb.size)⟩
          clear r hT hTT hnm RX
          go_upto_region 34 with fail
          go_region_held3 (fun W' => W'.cell? ⟨ub, 1, none⟩ = some (.slice am nm cm) ∧ W'.cell? ⟨ub, 2, none⟩ = some (.slice al T cl) ∧ W'.cell? ⟨bx, 2, none⟩ = some (.int .i64 x.u.k) ∧ W'.cell? ⟨bx, 3, none⟩ = some (.int .i64 x.u.id) ∧ W'.cell? ⟨bx, 4, none⟩ = some (.int .i64 x.u.p.c) ∧ W'.cell? ⟨bx, 5, none⟩ = some (.int .i64 x.u.p.v0) ∧ W'.cell? ⟨bx, 6, none⟩ = some (.int .i64 x.u.p.v1) ∧ W'.cell? ⟨bx, 7, none⟩ = some (.int .i64 x.u.p.v2) ∧ W'.cell? ⟨bx, 8, none⟩ = some (.int .i64 x.u.p.v3) ∧ W'.cell? ⟨bx, 9, none⟩ = some (.int .i64 x.u.p.t) ∧ W'.cell? ⟨bx, 10, none⟩ = some (.slice pa pn pc) ∧ W'.cell? ⟨bx, 11, none⟩ = some (.int .i64 x.u.n) ∧ W'.cell? ⟨bx, 12, none⟩ = some (.int .i64 x.u.o))
            (first | exact KK.out _ (by assumption) | exact KK.out _ (Below.refl _ _).drew | exact KK.out _ (Below.refl _ _))
            (first
              | (go_at_call 22; refine (CA.out _ (by first | assumption | exact (Below.refl _ _).drew | exact Below.refl _ _)).mono ?_; rintro e wA ⟨rfl, hbA⟩)
              | (go_at_call 23; refine (CN.out _ (by first | assumption)).mono ?_; rintro e wB ⟨rfl, hbB⟩)
              | (go_at_call 24; refine (CL.out _ (by first | assumption)).mono ?_; rintro e wC ⟨rfl, hbC⟩)
              | (go_at_call 26; refine (CM.out _ (by first | assumption)).mono ?_; rintro e wD ⟨⟨a4, n4, c4, rfl, h4⟩, hbD⟩)
              | (go_at_call 25; refine (h4.out _ (by first | exact Below.refl _ _ | exact (Below.refl _ _).drew)).mono ?_; rintro e wE ⟨rfl, hbE⟩)
              | (go_at_call 27; refine (CJ.out _ (by first | assumption)).mono ?_; rintro e wF ⟨rfl, hbF⟩))
          all_goals
            have XF := hid (XX.out.later hbF)
            clear KK CA CN CL CM CS4 CJ hbA hbB hbC hbD hbE hbF h4
            go_wp2_with fail
            go_roundg (150 - (q + 1))
            case measure => omega
            case rel => exact ⟨q + 1, by omega, rfl, by go_num, p', ms', es', XF.out, FF.out, LL.out⟩
      · have h2i : ¬ (q : Int) < 150 := by omega
        have BF := hid HX.out.bel
        go_wp2_with fail
        go_ret
        exact ⟨rfl, BF.out⟩
    · have h1i : ¬ (q : Int) < (xs.length : Int) := by omega
      have BF := hid HX.out.bel
      go_wp2_with fail
      go_ret
      exact ⟨rfl, BF.out⟩
end Go.Proofs.YtnbgjbdbbmpoaaaDoor.Jo
