/- ColumnExact: the walk. -/
import Derived.Test.YtpglanlpnapddaaDoorEj
import Derived.Deep.DeepCutAuto
import Derived.Deep.CutRange
import Derived.Deep.LoopGhost
import Derived.Deep.CutBlock
import Derived.BigQuiet
namespace Go.Proofs.YtpglanlpnapddaaDoor
open Go.RowKit Go.Shelf Go.Maps
theorem FE.ref {Ad : Nat → Addr} {W W' : World} {fv : Value} {g : Nat} (h : FE Ad W fv g) (hb : g ≠ 0 → Below W.heap.size W W') : FE Ad W' fv g := by
  rcases h with ⟨rfl, rfl⟩ | ⟨h1, d, h2, h3⟩
  · exact .inl ⟨rfl, rfl⟩
  · exact .inr ⟨h1, d, h2.later (hb (by omega)), h3⟩
/-- What the round asks of both columns. -/
structure Asks (Ad : Nat → Addr) (rb ub k n : Nat) (la : Option Addr) (lc : Nat) (fv : Value) (g : Nat) (l : List Nat) (wx : World) : Prop where
  ku : ∀ W', Below wx.heap.size wx W' → W'.cell? ⟨ub, 2, none⟩ = some (.slice la n lc)
  c19 : ∀ W', Below wx.heap.size wx W' → Calls Tryd.prog 19 #[fv] W' fun e w' => e = .returned (.int .i64 (g : Int)) ∧ Below wx.heap.size wx w'
  c20 : ∀ W', Below wx.heap.size wx W' → Calls Tryd.prog 20 #[.pointer (some ⟨rb, 0, none⟩)] W' fun e w' => e = .returned (.int .i64 (n : Int)) ∧ w' = W'
  c22 : ∀ W', Below wx.heap.size wx W' → Calls Tryd.prog 22 #[.pointer (some ⟨rb, 0, none⟩), .int .i64 (k : Int)] W' fun e w' => ∃ v, e = .returned v ∧ Ints W'.heap.size w' v l ∧ Below wx.heap.size wx w'
  c23 : ∀ W', Below wx.heap.size wx W' → Calls Tryd.prog 23 #[.pointer (some ⟨ub, 0, none⟩), .int .i64 (k : Int)] W' fun e w' => ∃ v, e = .returned v ∧ Ints W'.heap.size w' v l ∧ Below W'.heap.size W' w' ∧ Below wx.heap.size wx w'
  c21 : ∀ W' B B' v u, Below wx.heap.size wx W' → Ints B W' v l → Ints B' W' u l → Calls Tryd.prog 21 #[v, u] W' fun e w' => e = .returned (.bool true) ∧ Below wx.heap.size wx w'
theorem asks {Ad : Nat → Addr} {w wx : World} {rb ub k g : Nat} {fv : Value} {s : CS} {S U : Nat → Prop} (hE : Env wx Ad) (hX : Ex w rb ub s s S U wx) (hF : FE Ad wx fv g) (hl : s.rows.length ≤ 1000) : ∃ la lc l, Asks Ad rb ub k s.rows.length la lc fv g l wx := by
  obtain ⟨la, lc, hu2⟩ := hX.ref.c2
  have hll : (since s.rows (k : Int) s.rows.length).length ≤ 1000 := Nat.le_trans (since_len s.rows (k : Int) s.rows.length) hl
  refine ⟨la, lc, since s.rows (k : Int) s.rows.length, fun W' hb => seen hb (Nat.le_refl _) hu2, fun W' hb => ?_, fun W' hb => col_len (hX.col.later hb), fun W' hb => ?_, fun W' hb => ?_, fun W' B B' v u hb h1 h2 => ?_⟩
  · refine (num_fe (hE.later hb) (hF.later hb)).mono ?_
    rintro e w' ⟨h1, h2⟩
    exact ⟨h1, hb.trans (h2.mono hb.size)⟩
  · refine (col_since (hX.col.later hb) (k : Int)).mono ?_
    rintro e w' ⟨v, h1, h2, h3⟩
    exact ⟨v, h1, h2, hb.trans (h3.mono hb.size)⟩
  · refine (rer_since (hX.ref.later hb) (k : Int)).mono ?_
    rintro e w' ⟨v, h1, h2, h3⟩
    exact ⟨v, h1, h2, h3, hb.trans (h3.mono hb.size)⟩
  · refine (same_any h1 h2 hll).mono ?_
    rintro e w' ⟨h1, h2⟩
    exact ⟨h1, hb.trans (h2.mono hb.size)⟩
set_option maxHeartbeats 6400000 in
set_option maxRecDepth 100000 in
theorem exact_in (w : World) (Ad : Nat → Addr) (hE : Env w Ad) (c : Int) (wd : Nat) (h0 : 0 ≤ c) (h1 : c ≤ 15) (hw0 : 1 ≤ wd) (hw : wd ≤ 4) (v : Value) (cl : List ActI) (hA : ActRow w v cl) :
    Calls Tryd.prog 3 #[.int .i64 c, .int .i64 (wd : Int), v] w fun e w' => e = .returned (.bool true) ∧ Below w.heap.size w w' := by
  have HA := hid hA
  obtain ⟨a, ac, rfl, -, -⟩ := hA
  have AW := hid (awake_any w Ad hE.three)
  have E0 := hid hE
  have CN := hid (fun W => col_new W c wd h0 h1 hw0 hw)
  have RN := hid (fun W (h : w.heap.size ≤ W.heap.size) => rer_new (B := w.heap.size) W c wd h0 h1 hw0 hw h)
  clear hE h0 h1 hw0 hw
  go_enter Tryd.func3, Tryd.ntmps3
  go_wp2_with fail
  refine AW.out.mono ?_
  rintro e w1 ⟨rfl, b1⟩
  have B1 := hid b1
  clear AW b1
  go_wp2_with fail
  refine (CN.out w1).mono ?_
  rintro e w2 ⟨rb, S, rfl, h2, b2⟩
  have b02 := B1.out.trans (b2.mono B1.out.size)
  have B2 := hid b02
  have C2 : Hid (Col w.heap.size w2 rb ⟨c, wd, []⟩ S) := h2.lower B1.out.size
  have RC := hid (RN.out w2 b02.size)
  clear CN RN b2 h2 b02 B1
  go_wp2_with fail
  refine RC.out.mono ?_
  rintro e w3 ⟨ub, U, rfl, h3, hU3, b3⟩
  have X3 : Hid (Ex w rb ub ⟨c, wd, []⟩ ⟨c, wd, []⟩ S U w3) := ⟨C2.out.later b3, h3, fun x hx hu => by have := (C2.out.lt x hx).2; have := hU3 x hu; omega, B2.out.trans (b3.mono B2.out.size)⟩
  clear RC h3 hU3 b3 C2 B2
  go_upto_block 0 with fail
  go_cut [10, 11, 12, 13, 14, 15, 16, 17, 18, 19, 20, 21, 22, 23] from 53 to 203 (fun _ _ _ _ _ _ _ _ _ _ _ _ _ _ wx => ∃ (s : CS) (S U : Nat → Prop), Hid (s.rows.length ≤ 200) ∧ Hid (Ex w rb ub s s S U wx))
  case first =>
    go_wp2_with fail
    go_loopg [10, 11, 12, 13, 14, 15, 16, 17, 18, 19, 20, 21, 22, 23] 200 (fun gh i _ _ _ _ _ _ _ _ _ _ _ _ _ wr => ∃ k : Nat, k ≤ 200 ∧ gh = 200 - k ∧ i = .int .i64 (k : Int) ∧ ∃ (s : CS) (S U : Nat → Prop), s.rows.length ≤ k ∧ Hid (Ex w rb ub s s S U wr))
    case atStart => exact ⟨0, by omega, rfl, rfl, _, S, U, Nat.le_refl _, X3.out⟩
    case round =>
      clear X3
      rename World => wr
      obtain ⟨k, hk, rfl, rfl, s, S, U, hsk, HX⟩ := hrel
      by_cases h1 : k < cl.length
      · have h1i : (k : Int) < (cl.length : Int) := by omega
        by_cases h2 : k < 200
        · have h2i : (k : Int) < 200 := by omega
          obtain ⟨x, hx⟩ := at_lt cl k h1
          obtain ⟨b, o, rfl, hT, hwf⟩ : ∃ b o, a = some ⟨b, o, none⟩ ∧ Ten wr b (o + k * 10) x ∧ x.wf := by
            obtain ⟨a', c', hv, hw, hl⟩ := HA.out
            obtain ⟨rfl, rfl⟩ : a = a' ∧ ac = c' := by simpa using hv
            rcases hl with h | ⟨b, o, h4, h5⟩
            · rw [h] at h1; simp at h1
            · exact ⟨b, o, h4, (h5 k x hx).later HX.out.bel, hw x (List.mem_of_getElem? hx)⟩
          have t0 : wr.cell? ⟨b, o + k * 10, none⟩ = some (.int .i64 x.kind) := hT 0 (by decide)
          have t1 : wr.cell? ⟨b, o + k * 10 + 1, none⟩ = some (.int .i64 x.n) := hT 1 (by decide)
          have t2 : wr.cell? ⟨b, o + k * 10 + 2, none⟩ = some (.int .i64 x.cm) := hT 2 (by decide)
          have t3 : wr.cell? ⟨b, o + k * 10 + 3, none⟩ = some (.int .i64 x.p.a) := hT 3 (by decide)
          have t4 : wr.cell? ⟨b, o + k * 10 + 4, none⟩ = some (.int .i64 x.p.b) := hT 4 (by decide)
          have t5 : wr.cell? ⟨b, o + k * 10 + 5, none⟩ = some (.int .i64 x.p.c) := hT 5 (by decide)
          have t6 : wr.cell? ⟨b, o + k * 10 + 6, none⟩ = some (.int .i64 x.p.d) := hT 6 (by decide)
          have t7 : wr.cell? ⟨b, o + k * 10 + 7, none⟩ = some (.int .i64 x.p.t) := hT 7 (by decide)
          have t8 : wr.cell? ⟨b, o + k * 10 + 8, none⟩ = some (.int .i64 x.cell) := hT 8 (by decide)
          have t9 : wr.cell? ⟨b, o + k * 10 + 9, none⟩ = some (.int .i64 x.value) := hT 9 (by decide)
          have XW := hid hwf
          obtain ⟨w4, hw4⟩ : ∃ w4, w4 = ((wr.alloc (.cells #[.int .i64 x.kind, .int .i64 x.n, .int .i64 x.cm, .int .i64 x.p.a, .int .i64 x.p.b, .int .i64 x.p.c, .int .i64 x.p.d, .int .i64 x.p.t, .int .i64 x.cell, .int .i64 x.value] 36)).alloc (.cells #[.int .i64 0, .int .i64 0, .int .i64 0, .int .i64 0, .int .i64 0, .int .i64 0] 34)).alloc (.cells #[.int .i64 0, .int .i64 0, .int .i64 0, .int .i64 0, .int .i64 0, .int .i64 0] 34) := ⟨_, rfl⟩
          have R4 : Hid (Rd w rb ub s s S U wr.heap.size (wr.heap.size + 1) (wr.heap.size + 1 + 1) x 0 Pt.zero 0 Pt.zero w4) := by
            rw [hw4]; exact HX.out.round x
          have HW4 := hid hw4
          clear hx hT hwf hw4 HX
          go_upto_block 2 with fail
          rw [← HW4.out]
          have hs1000 : s.rows.length < 1000 := by omega
          have HOK := hid R4.out.ex.col.ok
          clear HW4 t0 t1 t2 t3 t4 t5 t6 t7 t8 t9
          generalize wr.heap.size + 1 + 1 = bb at R4 ⊢
          generalize wr.heap.size + 1 = ba at R4 ⊢
          generalize wr.heap.size = bx at R4 ⊢
          go_cut [14, 15, 16, 17, 18, 19] from 53 to 203 (fun fs gs _ _ _ _ wx => ∃ (fv : Value) (gn : Nat) (q : Pt) (qc : Int) (s' : CS) (S' U' : Nat → Prop), fs = fv ∧ gs = .int .i64 (gn : Int) ∧ Hid (s'.rows.length ≤ k + 1) ∧ Hid (FE Ad wx fv gn) ∧ Hid (Rd w rb ub s' s' S' U' bx ba bb x qc q qc q wx))
          case first =>
            by_cases hk1 : x.kind = 1
            · have q1 : (x.kind == 1) = true := by simp [hk1]
              clear hk1
              obtain ⟨n, g, s', hnx, hcc, hrr⟩ := both_push s hs1000 x.cm x.p XW.out.2
              have NX := hid hnx
              have CP := hid (hcc Ad _ w4 rb S R4.out.ex.col (E0.out.later R4.out.ex.bel).three)
              have RR := hid hrr
              unfold Pt.val at CP
              obtain ⟨c0, c1, c2, c3, c4, c5, c6, c7, c8, c9⟩ := told R4.out.hx
              clear hnx hcc hrr
              go_wp2_with fail
              refine CP.out.mono ?_
              rintro e w5 ⟨fv, rfl, fe, S', hc', hs', hf'⟩
              have R5 := hid (R4.out.colT hs' hc' hf')
              have F5 := hid fe
              have RP := hid (RR.out _ w5 ub U R5.out.ex.ref)
              unfold Pt.val at RP
              clear CP hs' hc' hf' fe c0 c1 c2 c3 c4 c5 c6 c7 c8 c9 RR
              obtain ⟨c0, c1, c2, c3, c4, c5, c6, c7, c8, c9⟩ := told R5.out.hx
              go_wp2_with fail
              refine RP.out.mono ?_
              rintro e w6 ⟨rfl, hbel, U', hr', hs', hf'⟩
              have R6 := hid (R5.out.refT hs' hr' hf')
              have F6 := hid (F5.out.ref hbel)
              clear RP hs' hr' hf' hbel c0 c1 c2 c3 c4 c5 c6 c7 c8 c9
              go_wp2_with fail
              go_meet
              exact ⟨fv, g, Pt.zero, 0, s', S', U', rfl, rfl, by have := NX.out.2.2; show s'.rows.length ≤ k + 1; omega, F6.out, R6.out⟩
            · have q1 : (x.kind == 1) = false := by simp [hk1]
              clear hk1
              by_cases hk2 : x.kind = 2
              · have q2 : (x.kind == 2) = true := by simp [hk2]
                clear hk2
                obtain ⟨q, qc, g, s', hnx, hcc, hrr⟩ := both_set s HOK.out x.n x.cell x.value k XW.out.1 (by omega)
                have NX := hid hnx
                have CP := hid (hcc Ad _ w4 rb S R4.out.ex.col (E0.out.later R4.out.ex.bel).three)
                have RR := hid hrr
                unfold Pt.val at CP
                obtain ⟨c0, c1, c2, c3, c4, c5, c6, c7, c8, c9⟩ := told R4.out.hx
                clear hnx hcc hrr
                go_wp2_with fail
                refine CP.out.mono ?_
                rintro e w5 ⟨fv, rfl, fe, S', hc', hs', hf'⟩
                have R5 := hid (R4.out.colT hs' hc' hf')
                have F5 := hid fe
                obtain ⟨a0, a1, a2, a3, a4, a5, f0, f1, f2, f3, f4, f5⟩ := lies R5.out.ha
                obtain ⟨w6, hw6⟩ : ∃ w6, w6 = put6 w5 ba qc q := ⟨_, rfl⟩
                have R6 : Hid (Rd w rb ub s' s S' U bx ba bb x qc q 0 Pt.zero w6) := by rw [hw6]; exact R5.out.putA qc q
                have F6 : Hid (FE Ad w6 fv g) := by rw [hw6]; exact F5.out.put (put6_st w5 ba qc q) a0
                have RP := hid (RR.out _ w6 ub U R6.out.ex.ref)
                unfold Pt.val at RP
                unfold put6 at hw6
                have HW6 := hid hw6
                clear CP hs' hc' hf' fe c0 c1 c2 c3 c4 c5 c6 c7 c8 c9 RR hw6
                go_upto_region 29 with fail
                rw [← HW6.out]
                clear a0 a1 a2 a3 a4 a5 f0 f1 f2 f3 f4 f5
                obtain ⟨c0, c1, c2, c3, c4, c5, c6, c7, c8, c9⟩ := told R6.out.hx
                go_wp2_with fail
                refine RP.out.mono ?_
                rintro e w7 ⟨rfl, hbel, U', hr', hs', hf'⟩
                have R7 := hid (R6.out.refT hs' hr' hf')
                have F7 := hid (F6.out.ref hbel)
                obtain ⟨a0, a1, a2, a3, a4, a5, f0, f1, f2, f3, f4, f5⟩ := lies R7.out.hb
                obtain ⟨w8, hw8⟩ : ∃ w8, w8 = put6 w7 bb qc q := ⟨_, rfl⟩
                have R8 : Hid (Rd w rb ub s' s' S' U' bx ba bb x qc q qc q w8) := by rw [hw8]; exact R7.out.putB qc q
                have F8 : Hid (FE Ad w8 fv g) := by rw [hw8]; exact F7.out.put (put6_st w7 bb qc q) a0
                unfold put6 at hw8
                have HW8 := hid hw8
                clear RP hs' hr' hf' hbel c0 c1 c2 c3 c4 c5 c6 c7 c8 c9 hw8
                go_wp2_with fail
                rw [← HW8.out]
                go_meet
                exact ⟨fv, g, q, qc, s', S', U', rfl, rfl, by have := NX.out.2.2; show s'.rows.length ≤ k + 1; omega, F8.out, R8.out⟩
              · have q2 : (x.kind == 2) = false := by simp [hk2]
                clear hk2
                by_cases hk3 : x.kind = 3
                · have q3 : (x.kind == 3) = true := by simp [hk3]
                  clear hk3
                  obtain ⟨q, qc, g, s', hnx, hcc, hrr⟩ := both_put s x.n x.cm x.p XW.out.1 XW.out.2
                  have NX := hid hnx
                  have CP := hid (hcc Ad _ w4 rb S R4.out.ex.col (E0.out.later R4.out.ex.bel).three)
                  have RR := hid hrr
                  unfold Pt.val at CP
                  obtain ⟨c0, c1, c2, c3, c4, c5, c6, c7, c8, c9⟩ := told R4.out.hx
                  clear hnx hcc hrr
                  go_wp2_with fail
                  refine CP.out.mono ?_
                  rintro e w5 ⟨fv, rfl, fe, S', hc', hs', hf'⟩
                  have R5 := hid (R4.out.colT hs' hc' hf')
                  have F5 := hid fe
                  obtain ⟨a0, a1, a2, a3, a4, a5, f0, f1, f2, f3, f4, f5⟩ := lies R5.out.ha
                  obtain ⟨w6, hw6⟩ : ∃ w6, w6 = put6 w5 ba qc q := ⟨_, rfl⟩
                  have R6 : Hid (Rd w rb ub s' s S' U bx ba bb x qc q 0 Pt.zero w6) := by rw [hw6]; exact R5.out.putA qc q
                  have F6 : Hid (FE Ad w6 fv g) := by rw [hw6]; exact F5.out.put (put6_st w5 ba qc q) a0
                  have RP := hid (RR.out _ w6 ub U R6.out.ex.ref)
                  unfold Pt.val at RP
                  unfold put6 at hw6
                  have HW6 := hid hw6
                  clear CP hs' hc' hf' fe c0 c1 c2 c3 c4 c5 c6 c7 c8 c9 RR hw6
                  go_upto_region 32 with fail
                  rw [← HW6.out]
                  clear a0 a1 a2 a3 a4 a5 f0 f1 f2 f3 f4 f5
                  obtain ⟨c0, c1, c2, c3, c4, c5, c6, c7, c8, c9⟩ := told R6.out.hx
                  go_wp2_with fail
                  refine RP.out.mono ?_
                  rintro e w7 ⟨rfl, hbel, U', hr', hs', hf'⟩
                  have R7 := hid (R6.out.refT hs' hr' hf')
                  have F7 := hid (F6.out.ref hbel)
                  obtain ⟨a0, a1, a2, a3, a4, a5, f0, f1, f2, f3, f4, f5⟩ := lies R7.out.hb
                  obtain ⟨w8, hw8⟩ : ∃ w8, w8 = put6 w7 bb qc q := ⟨_, rfl⟩
                  have R8 : Hid (Rd w rb ub s' s' S' U' bx ba bb x qc q qc q w8) := by rw [hw8]; exact R7.out.putB qc q
                  have F8 : Hid (FE Ad w8 fv g) := by rw [hw8]; exact F7.out.put (put6_st w7 bb qc q) a0
                  unfold put6 at hw8
                  have HW8 := hid hw8
                  clear RP hs' hr' hf' hbel c0 c1 c2 c3 c4 c5 c6 c7 c8 c9 hw8
                  go_wp2_with fail
                  rw [← HW8.out]
                  go_meet
                  exact ⟨fv, g, q, qc, s', S', U', rfl, rfl, by have := NX.out.2.2; show s'.rows.length ≤ k + 1; omega, F8.out, R8.out⟩
                · have q3 : (x.kind == 3) = false := by simp [hk3]
                  clear hk3
                  obtain ⟨q, qc, g, s', hnx, hcc, hrr⟩ := both_take s x.n XW.out.1
                  have NX := hid hnx
                  have CP := hid (hcc Ad _ w4 rb S R4.out.ex.col (E0.out.later R4.out.ex.bel).three)
                  have RR := hid hrr
                  unfold Pt.val at CP
                  obtain ⟨c0, c1, c2, c3, c4, c5, c6, c7, c8, c9⟩ := told R4.out.hx
                  clear hnx hcc hrr
                  go_wp2_with fail
                  refine CP.out.mono ?_
                  rintro e w5 ⟨fv, rfl, fe, S', hc', hs', hf'⟩
                  have R5 := hid (R4.out.colT hs' hc' hf')
                  have F5 := hid fe
                  obtain ⟨a0, a1, a2, a3, a4, a5, f0, f1, f2, f3, f4, f5⟩ := lies R5.out.ha
                  obtain ⟨w6, hw6⟩ : ∃ w6, w6 = put6 w5 ba qc q := ⟨_, rfl⟩
                  have R6 : Hid (Rd w rb ub s' s S' U bx ba bb x qc q 0 Pt.zero w6) := by rw [hw6]; exact R5.out.putA qc q
                  have F6 : Hid (FE Ad w6 fv g) := by rw [hw6]; exact F5.out.put (put6_st w5 ba qc q) a0
                  have RP := hid (RR.out _ w6 ub U R6.out.ex.ref)
                  unfold Pt.val at RP
                  unfold put6 at hw6
                  have HW6 := hid hw6
                  clear CP hs' hc' hf' fe c0 c1 c2 c3 c4 c5 c6 c7 c8 c9 RR hw6
                  go_upto_region 19 with fail
                  rw [← HW6.out]
                  clear a0 a1 a2 a3 a4 a5 f0 f1 f2 f3 f4 f5
                  obtain ⟨c0, c1, c2, c3, c4, c5, c6, c7, c8, c9⟩ := told R6.out.hx
                  go_wp2_with fail
                  refine RP.out.mono ?_
                  rintro e w7 ⟨rfl, hbel, U', hr', hs', hf'⟩
                  have R7 := hid (R6.out.refT hs' hr' hf')
                  have F7 := hid (F6.out.ref hbel)
                  obtain ⟨a0, a1, a2, a3, a4, a5, f0, f1, f2, f3, f4, f5⟩ := lies R7.out.hb
                  obtain ⟨w8, hw8⟩ : ∃ w8, w8 = put6 w7 bb qc q := ⟨_, rfl⟩
                  have R8 : Hid (Rd w rb ub s' s' S' U' bx ba bb x qc q qc q w8) := by rw [hw8]; exact R7.out.putB qc q
                  have F8 : Hid (FE Ad w8 fv g) := by rw [hw8]; exact F7.out.put (put6_st w7 bb qc q) a0
                  unfold put6 at hw8
                  have HW8 := hid hw8
                  clear RP hs' hr' hf' hbel c0 c1 c2 c3 c4 c5 c6 c7 c8 c9 hw8
                  go_wp2_with fail
                  rw [← HW8.out]
                  go_meet
                  exact ⟨fv, g, q, qc, s', S', U', rfl, rfl, by have := NX.out.2.2; show s'.rows.length ≤ k + 1; omega, F8.out, R8.out⟩
          case rest =>
            rename World => wx
            obtain ⟨fv, g, q, qc, s', S', U', rfl, rfl, HL, HF, HR⟩ := hcut
            clear R4 HOK hs1000
            have hl1000 : s'.rows.length ≤ 1000 := by have := HL.out; omega
            have hli : (s'.rows.length : Int) ≤ 201 := by have := HL.out; omega
            have E4 := hid (E0.out.later HR.out.ex.bel)
            obtain ⟨la, lc, l, ask⟩ := asks (k := k) E4.out HR.out.ex HF.out hl1000
            have AS := hid ask
            have KC : Hid (∀ W', Below wx.heap.size wx W' → W'.cell? ⟨ba, 0, none⟩ = some (.int .i64 qc) ∧ W'.cell? ⟨ba, 1, none⟩ = some (.int .i64 q.a) ∧ W'.cell? ⟨ba, 2, none⟩ = some (.int .i64 q.b) ∧ W'.cell? ⟨ba, 3, none⟩ = some (.int .i64 q.c) ∧ W'.cell? ⟨ba, 4, none⟩ = some (.int .i64 q.d) ∧ W'.cell? ⟨ba, 5, none⟩ = some (.int .i64 q.t) ∧ W'.cell? ⟨bb, 0, none⟩ = some (.int .i64 qc) ∧ W'.cell? ⟨bb, 1, none⟩ = some (.int .i64 q.a) ∧ W'.cell? ⟨bb, 2, none⟩ = some (.int .i64 q.b) ∧ W'.cell? ⟨bb, 3, none⟩ = some (.int .i64 q.c) ∧ W'.cell? ⟨bb, 4, none⟩ = some (.int .i64 q.d) ∧ W'.cell? ⟨bb, 5, none⟩ = some (.int .i64 q.t) ∧ W'.cell? ⟨ub, 2, none⟩ = some (.slice la s'.rows.length lc)) := by
              intro W' hb
              have ya := lies (blk_seen hb (Nat.le_refl _) HR.out.ha)
              have yb := lies (blk_seen hb (Nat.le_refl _) HR.out.hb)
              exact ⟨ya.c0, ya.c1, ya.c2, ya.c3, ya.c4, ya.c5, yb.c0, yb.c1, yb.c2, yb.c3, yb.c4, yb.c5, AS.out.ku W' hb⟩
            clear ask hl1000
            have nq := neqP
            go_upto_region 33 with fail
            go_region_held3 (fun W' => W'.cell? ⟨ba, 0, none⟩ = some (.int .i64 qc) ∧ W'.cell? ⟨ba, 1, none⟩ = some (.int .i64 q.a) ∧ W'.cell? ⟨ba, 2, none⟩ = some (.int .i64 q.b) ∧ W'.cell? ⟨ba, 3, none⟩ = some (.int .i64 q.c) ∧ W'.cell? ⟨ba, 4, none⟩ = some (.int .i64 q.d) ∧ W'.cell? ⟨ba, 5, none⟩ = some (.int .i64 q.t) ∧ W'.cell? ⟨bb, 0, none⟩ = some (.int .i64 qc) ∧ W'.cell? ⟨bb, 1, none⟩ = some (.int .i64 q.a) ∧ W'.cell? ⟨bb, 2, none⟩ = some (.int .i64 q.b) ∧ W'.cell? ⟨bb, 3, none⟩ = some (.int .i64 q.c) ∧ W'.cell? ⟨bb, 4, none⟩ = some (.int .i64 q.d) ∧ W'.cell? ⟨bb, 5, none⟩ = some (.int .i64 q.t) ∧ W'.cell? ⟨ub, 2, none⟩ = some (.slice la s'.rows.length lc)) (first | exact KC.out _ (by assumption) | exact KC.out _ (Below.refl _ _).drew | exact KC.out _ (Below.refl _ _))
              (first
                | (go_at_call 19; refine (AS.out.c19 _ (Below.refl _ _).drew).mono ?_; rintro e w5 ⟨rfl, hb5⟩)
                | (go_at_call 20; refine (AS.out.c20 _ (by assumption)).mono ?_; rintro e w6 ⟨rfl, rfl⟩)
                | (go_at_call 22; refine (AS.out.c22 _ (by assumption)).mono ?_; rintro e w7 ⟨v7, rfl, hi7, hb7⟩)
                | (go_at_call 23; refine (AS.out.c23 _ (by assumption)).mono ?_; rintro e w8 ⟨v8, rfl, hi8, hb78, hb8⟩)
                | (go_at_call 21; refine (AS.out.c21 _ _ _ _ _ (by assumption) (hi7.later hb78) hi8).mono ?_; rintro e w9 ⟨rfl, hb9⟩))
            all_goals
              have R9 := hid (HR.out.later hb9)
              have B9 := hid hb9
              have E9 := hid (E4.out.later hb9)
              clear AS KC hb5 hb7 hb78 hb8 hb9 hi7 hi8
              obtain ⟨rq, rc, rg, hcc, hrr⟩ := both_row s' x.n XW.out.1
              have CP := hid (hcc Ad _ w9 rb S' R9.out.ex.col E9.out.three)
              have RR := hid (fun W (h : Rer w.heap.size W ub s' U') => hrr _ W ub U' h)
              unfold Pt.val at CP RR
              obtain ⟨c0, c1, c2, c3, c4, c5, c6, c7, c8, c9⟩ := told R9.out.hx
              clear hcc hrr
              go_wp2_with fail
              refine CP.out.mono ?_
              rintro e w10 ⟨fy, rfl, fe, b10⟩
              obtain ⟨w11, hw11⟩ : ∃ w11, w11 = w10.alloc (.cells #[.int .i64 rc, .int .i64 rq.a, .int .i64 rq.b, .int .i64 rq.c, .int .i64 rq.d, .int .i64 rq.t] 34) := ⟨_, rfl⟩
              have b1011 : Below w10.heap.size w10 w11 := by rw [hw11]; exact bAl _ _
              have R11 := hid ((R9.out.later b10).later b1011)
              have F11 := hid (fe.later b1011)
              have Y11 : Hid (w11.heap[w10.heap.size]? = some (.cells (rq.arr rc) 34 (0, 0))) := by rw [hw11]; exact heap_alloc_new w10 _
              have RP := hid (RR.out w11 R11.out.ex.ref)
              have HW11 := hid hw11
              obtain ⟨c0, c1, c2, c3, c4, c5, c6, c7, c8, c9⟩ := told (R9.out.later b10).hx
              clear CP RR fe b10 b1011 hw11
              go_upto_region 36 with fail
              rw [← HW11.out]
              clear c0 c1 c2 c3 c4 c5 c6 c7 c8 c9
              obtain ⟨c0, c1, c2, c3, c4, c5, c6, c7, c8, c9⟩ := told R11.out.hx
              go_wp2_with fail
              refine RP.out.mono ?_
              rintro e w12 ⟨rfl, b12⟩
              obtain ⟨w13, hw13⟩ : ∃ w13, w13 = w12.alloc (.cells #[.int .i64 rc, .int .i64 rq.a, .int .i64 rq.b, .int .i64 rq.c, .int .i64 rq.d, .int .i64 rq.t] 34) := ⟨_, rfl⟩
              have b1213 : Below w12.heap.size w12 w13 := by rw [hw13]; exact bAl _ _
              have b1113 := b12.trans (b1213.mono b12.size)
              have R13 := hid (R11.out.later b1113)
              have F13 := hid (F11.out.later b1113)
              have Y13 := hid (blk_seen b1113 (Nat.le_refl _) Y11.out)
              have Z13 : Hid (w13.heap[w12.heap.size]? = some (.cells (rq.arr rc) 34 (0, 0))) := by rw [hw13]; exact heap_alloc_new w12 _
              have NU := hid (num_fe (E0.out.later R13.out.ex.bel) F13.out)
              obtain ⟨a0, a1, a2, a3, a4, a5, -, -, -, -, -, -⟩ := lies Y13.out
              obtain ⟨d0, d1, d2, d3, d4, d5, -, -, -, -, -, -⟩ := lies Z13.out
              have HW13 := hid hw13
              clear RP b12 b1213 b1113 hw13 c0 c1 c2 c3 c4 c5 c6 c7 c8 c9 F11 R11
              go_upto_region 37 with fail
              rw [← HW13.out]
              go_wp2_with fail
              refine NU.out.mono ?_
              rintro e w14 ⟨rfl, b14⟩
              have X14 := hid (R13.out.later b14).ex
              clear NU b14 a0 a1 a2 a3 a4 a5 d0 d1 d2 d3 d4 d5
              go_wp2_with fail
              go_roundg (200 - (k + 1))
              case measure => omega
              case rel => exact ⟨k + 1, by omega, rfl, by go_num, s', S', U', HL.out, X14.out⟩
        · have h2i : ¬ ((k : Int) < 200) := by omega
          go_wp2_with fail
          go_meet
          exact ⟨s, S, U, by show s.rows.length ≤ 200; omega, HX.out⟩
      · have h1i : ¬ ((k : Int) < (cl.length : Int)) := by omega
        go_wp2_with fail
        go_meet
        exact ⟨s, S, U, by show s.rows.length ≤ 200; omega, HX.out⟩
  case rest =>
    clear X3
    rename World => wo
    obtain ⟨s, S, U, HL, HX⟩ := hcut
    obtain ⟨la, lc, hu2⟩ := HX.out.ref.c2
    have hli : (s.rows.length : Int) ≤ 200 := by have := HL.out; omega
    have KU : Hid (∀ W', Below wo.heap.size wo W' → W'.cell? ⟨ub, 2, none⟩ = some (.slice la s.rows.length lc)) := fun W' hb => seen hb (Nat.le_refl _) hu2
    clear hu2
    go_wp2_with fail
    go_loopg [24, 25, 26] s.rows.length (fun gh i _ _ wz => ∃ q : Nat, q ≤ s.rows.length ∧ gh = s.rows.length - q ∧ i = .int .i64 (q : Int) ∧ Hid (Below wo.heap.size wo wz))
    case atStart => exact ⟨0, Nat.zero_le _, rfl, rfl, Below.refl _ _⟩
    case round =>
      rename World => wz
      obtain ⟨i, hi, rfl, rfl, HZ⟩ := hrel
      have XZ := hid (HX.out.later HZ.out)
      have u2 := KU.out _ HZ.out
      by_cases hil : i < s.rows.length
      · have hii : (i : Int) < (s.rows.length : Int) := by omega
        obtain ⟨y, hy⟩ := at_lt s.rows i hil
        have RY := hid (col_row XZ.out.col i y hy)
        unfold Pt.val at RY
        have HY := hid hy
        clear hy
        go_wp2_with fail
        refine RY.out.mono ?_
        rintro e w9 ⟨rfl, b9⟩
        obtain ⟨w10, hw10⟩ : ∃ w10, w10 = w9.alloc (.cells #[.int .i64 s.comp, .int .i64 y.a, .int .i64 y.b, .int .i64 y.c, .int .i64 y.d, .int .i64 y.t] 34) := ⟨_, rfl⟩
        have b910 : Below w9.heap.size w9 w10 := by rw [hw10]; exact bAl _ _
        have b10 := b9.trans (b910.mono b9.size)
        have Y10 : w10.heap[w9.heap.size]? = some (.cells (y.arr s.comp) 34 (0, 0)) := by rw [hw10]; exact heap_alloc_new w9 _
        have Z10 := hid (HZ.out.trans (b10.mono HZ.out.size))
        obtain ⟨a0, a1, a2, a3, a4, a5, -, -, -, -, -, -⟩ := lies Y10
        obtain ⟨lg, rfl, g0, g1, g2, g3, g4, g5⟩ : ∃ lg, la = some ⟨lg, 0, none⟩ ∧ w10.cell? ⟨lg, i * 6, none⟩ = some (.int .i64 s.comp) ∧ w10.cell? ⟨lg, i * 6 + 1, none⟩ = some (.int .i64 y.a) ∧ w10.cell? ⟨lg, i * 6 + 2, none⟩ = some (.int .i64 y.b) ∧ w10.cell? ⟨lg, i * 6 + 3, none⟩ = some (.int .i64 y.c) ∧ w10.cell? ⟨lg, i * 6 + 4, none⟩ = some (.int .i64 y.d) ∧ w10.cell? ⟨lg, i * 6 + 5, none⟩ = some (.int .i64 y.t) := by
          obtain ⟨lv, hc, -⟩ := XZ.out.ref.later b10
          have e2 := hc.c2
          rw [KU.out _ Z10.out] at e2
          obtain rfl := Option.some.inj e2
          obtain ⟨lg, rfl⟩ := hc.row.some (by omega)
          obtain ⟨g0, g1, g2, g3, g4, g5⟩ := hc.row.cell HY.out
          exact ⟨lg, rfl, g0, g1, g2, g3, g4, g5⟩
        have v2 := KU.out _ Z10.out
        have nq := neqP
        have HW10 := hid hw10
        clear RY b9 b910 b10 hw10 Y10
        go_upto_region 43 with fail
        rw [← HW10.out]
        clear u2
        go_quiet (fail)
        go_wp2_with fail
        go_roundg (s.rows.length - (i + 1))
        case measure => omega
        case rel => exact ⟨i + 1, by omega, rfl, by go_num, Z10.out.trans ((drewN_below _ _).mono Z10.out.size)⟩
      · have hii : ¬ ((i : Int) < (s.rows.length : Int)) := by omega
        obtain ⟨l, hl⟩ : ∃ l, l = since s.rows (-9223372036854775808) s.rows.length := ⟨_, rfl⟩
        have hll : l.length ≤ 1000 := by rw [hl]; have := since_len s.rows (-9223372036854775808) s.rows.length; have := HL.out; omega
        have C22 : Hid (Calls Tryd.prog 22 #[.pointer (some ⟨rb, 0, none⟩), .int .i64 (-9223372036854775808)] wz fun e w' => ∃ v, e = .returned v ∧ Ints wz.heap.size w' v l ∧ Below wz.heap.size wz w') := by rw [hl]; exact col_since XZ.out.col _
        have C23 : Hid (∀ W', Below wz.heap.size wz W' → Calls Tryd.prog 23 #[.pointer (some ⟨ub, 0, none⟩), .int .i64 (-9223372036854775808)] W' fun e w' => ∃ v, e = .returned v ∧ Ints W'.heap.size w' v l ∧ Below W'.heap.size W' w') := by
          intro W' hb
          rw [hl]; exact rer_since (XZ.out.ref.later hb) _
        clear hl
        go_wp2_with fail
        refine C22.out.mono ?_
        rintro e w5 ⟨v5, rfl, hi5, b5⟩
        have I5 := hid hi5
        have B5 := hid b5
        have D23 := hid (C23.out w5 b5)
        clear C22 C23 hi5 b5
        go_wp2_with fail
        refine D23.out.mono ?_
        rintro e w6 ⟨v6, rfl, hi6, b6⟩
        have D21 := hid (same_any (I5.out.later b6) hi6 hll)
        have B6 := hid (B5.out.trans (b6.mono B5.out.size))
        clear D23 hi6 b6
        go_wp2_with fail
        refine D21.out.mono ?_
        rintro e w7 ⟨rfl, b7⟩
        have B7 := hid (B6.out.trans (b7.mono B6.out.size))
        clear D21 b7
        go_wp2_with fail
        go_ret
        exact ⟨rfl, XZ.out.bel.trans (B7.out.mono XZ.out.bel.size)⟩
end Go.Proofs.YtpglanlpnapddaaDoor
