/- AtlasExact: the walk. -/
import Derived.Test.YtmiaepjlifceeaaDoorCe
namespace Go.Proofs.YtmiaepjlifceeaaDoor
open Go.RowKit Go.Shelf Go.Maps
set_option maxHeartbeats 6400000 in
set_option maxRecDepth 100000 in
theorem exact_in (w : World) (Ad : Nat → Addr) (hE : Env w Ad) (n : Nat) (hn : n ≤ 16) (v : Value) (cl : List ActI) (hA : ActRow w v cl) :
    Calls Tryd.prog 3 #[.int .i64 (n : Int), v] w fun e w' => e = .returned (.bool true) ∧ Below w.heap.size w w' := by
  have HA := hid hA
  obtain ⟨a, ac, rfl, -, -⟩ := hA
  have AW := hid (awake_any w Ad hE.three)
  have E0 := hid hE
  have CN := hid (fun W => new_ok W n hn)
  have RN := hid (fun W => rnew_ok W n hn)
  clear hE hn
  go_enter Tryd.func3, Tryd.ntmps3
  go_wp2_with fail
  refine AW.out.mono ?_
  rintro e w1 ⟨rfl, b1⟩
  have B1 := hid b1
  clear AW b1
  go_wp2_with fail
  refine (CN.out w1).mono ?_
  rintro e w2 ⟨rb, S, rfl, h2, b2⟩
  have b02 := B1.out.trans (b2.mono B1.out.size)
  have B2 := hid b02
  have C2 : Hid (Atl w.heap.size w2 rb ⟨n, [0]⟩ S) := h2.lower B1.out.size
  have RC := hid (RN.out w2)
  clear CN RN b2 h2 b02 B1
  go_wp2_with fail
  refine RC.out.mono ?_
  rintro e w3 ⟨ub, rfl, ⟨U, h3⟩, b3⟩
  have X3 : Hid (Ex w rb ub ⟨n, [0]⟩ ⟨n, [0]⟩ S U w3) := by
    refine ⟨C2.out.later b3, ?_, fun x hx hu => by have := (C2.out.lt x hx).2; have := (h3.lt x hu).1; omega, B2.out.trans (b3.mono B2.out.size)⟩
    obtain ⟨lv, hr, hU⟩ := h3
    exact ⟨lv, ⟨hr.box, hr.row.lower B2.out.size, Nat.le_trans B2.out.size hr.low, hr.ok⟩, hU⟩
  clear RC h3 b3 C2 B2
  go_upto_block 0 with fail
  go_cut [8, 9, 10, 11, 12, 13, 14, 15, 16, 17, 18, 19, 20, 21] from 49 to 171 (fun _ _ _ _ _ _ _ _ _ _ _ _ _ _ wx => ∃ (s : AS) (S U : Nat → Prop), Hid (Ex w rb ub s s S U wx))
  case first =>
    go_wp2_with fail
    go_loopg [8, 9, 10, 11, 12, 13, 14, 15, 16, 17, 18, 19, 20, 21] 100 (fun gh i _ _ _ _ _ _ _ _ _ _ _ _ _ wr => ∃ k : Nat, k ≤ 100 ∧ gh = 100 - k ∧ i = .int .i64 (k : Int) ∧ ∃ (s : AS) (S U : Nat → Prop), Hid (Ex w rb ub s s S U wr))
    case atStart => exact ⟨0, by omega, rfl, rfl, _, S, U, X3.out⟩
    case round =>
      clear X3
      rename World => wr
      obtain ⟨k, hk, rfl, rfl, s, S, U, HX⟩ := hrel
      by_cases h1 : k < cl.length
      · have h1i : (k : Int) < (cl.length : Int) := by omega
        by_cases h2 : k < 100
        · have h2i : (k : Int) < 100 := by omega
          obtain ⟨x, hx⟩ := at_lt cl k h1
          obtain ⟨b, o, rfl, hT, hwf⟩ : ∃ b o, a = some ⟨b, o, none⟩ ∧ Five wr b (o + k * 5) x ∧ x.wf := by
            obtain ⟨a', c', hv, hw, hl⟩ := HA.out
            obtain ⟨rfl, rfl⟩ : a = a' ∧ ac = c' := by simpa using hv
            rcases hl with h | ⟨b, o, h4, h5⟩
            · rw [h] at h1; simp at h1
            · exact ⟨b, o, h4, (h5 k x hx).later HX.out.bel, hw x (List.mem_of_getElem? hx)⟩
          have t0 : wr.cell? ⟨b, o + k * 5, none⟩ = some (.int .i64 x.kind) := hT 0 (by decide)
          have t1 : wr.cell? ⟨b, o + k * 5 + 1, none⟩ = some (.int .u32 (x.m : Int)) := hT 1 (by decide)
          have t2 : wr.cell? ⟨b, o + k * 5 + 2, none⟩ = some (.int .u32 (x.w : Int)) := hT 2 (by decide)
          have t3 : wr.cell? ⟨b, o + k * 5 + 3, none⟩ = some (.int .i64 x.node) := hT 3 (by decide)
          have t4 : wr.cell? ⟨b, o + k * 5 + 4, none⟩ = some (.int .i64 x.n) := hT 4 (by decide)
          have XW := hid hwf
          obtain ⟨w4, hw4⟩ : ∃ w4, w4 = wr.alloc (.cells #[.int .i64 x.kind, .int .u32 (x.m : Int), .int .u32 (x.w : Int), .int .i64 x.node, .int .i64 x.n] 35) := ⟨_, rfl⟩
          have R4 : Hid (Rd w rb ub s s S U wr.heap.size x w4) := by
            rw [hw4]; exact HX.out.round x
          have HW4 := hid hw4
          clear hx hT hwf hw4 HX
          go_upto_block 2 with fail
          rw [← HW4.out]
          clear HW4 t0 t1 t2 t3 t4
          generalize wr.heap.size = bx at R4 ⊢
          go_cut [10, 11, 12, 13, 14, 15, 16, 17, 18, 19, 20, 21] from 49 to 171 (fun _ _ _ _ _ _ _ _ _ _ _ _ wx => ∃ (s' : AS) (S' U' : Nat → Prop), Hid (Ex w rb ub s' s' S' U' wx))
          case first =>
            by_cases hk1 : x.kind = 1
            · have q1 : (x.kind == 1) = true := by simp [hk1]
              clear hk1
              obtain ⟨m, g, s', hcc, hrr⟩ := both_at s x.m XW.out.1
              have CP := hid (hcc Ad _ w4 rb S R4.out.ex.col (E0.out.later R4.out.ex.bel).three)
              have RR := hid hrr
              obtain ⟨c0, c1, c2, c3, c4⟩ := told R4.out.hx
              clear hcc hrr
              go_wp2_with fail
              refine CP.out.mono ?_
              rintro e w5 ⟨fv, rfl, fe, hg⟩
              obtain ⟨S', r5⟩ := R4.out.colT hg
              have R5 := hid r5
              have F5 := hid fe
              have RP := hid (RR.out _ w5 ub U R5.out.ex.ref)
              clear CP hg fe r5 c0 c1 c2 c3 c4 RR
              obtain ⟨c0, c1, c2, c3, c4⟩ := told R5.out.hx
              go_wp2_with fail
              refine RP.out.mono ?_
              rintro e w6 ⟨rfl, hbel, hg⟩
              obtain ⟨U', r6⟩ := R5.out.refT hg
              have R6 := hid r6
              have F6 := hid (F5.out.ref hbel)
              have NU := hid (num_fe (E0.out.later R6.out.ex.bel) F6.out)
              clear RP hg r6 hbel c0 c1 c2 c3 c4
              go_wp2_with fail
              refine NU.out.mono ?_
              rintro e w7 ⟨rfl, b7⟩
              have X7 := hid (R6.out.later b7).ex
              clear NU b7
              go_wp2_with fail
              go_meet
              exact ⟨s', S', U', X7.out⟩
            · have q1 : (x.kind == 1) = false := by simp [hk1]
              clear hk1
              by_cases hk2 : x.kind = 2
              · have q2 : (x.kind == 2) = true := by simp [hk2]
                clear hk2
                obtain ⟨m, g, s', hcc, hrr⟩ := both_turn s x.node x.n true
                have CP := hid (turn_any (W := w4) x true q2 fun W1 hb => hcc Ad _ W1 rb S (R4.out.ex.col.later hb) (E0.out.later (R4.out.ex.bel.trans (hb.mono R4.out.ex.bel.size))).three)
                have RR := hid hrr
                obtain ⟨c0, c1, c2, c3, c4⟩ := told R4.out.hx
                clear hcc hrr
                go_wp2_with fail
                refine CP.out.mono ?_
                rintro e w5 ⟨fv, rfl, fe, hg⟩
                obtain ⟨S', r5⟩ := R4.out.colT hg
                have R5 := hid r5
                have F5 := hid fe
                have RP := hid (RR.out _ w5 ub U R5.out.ex.ref)
                clear CP hg fe r5 c0 c1 c2 c3 c4 RR
                obtain ⟨c0, c1, c2, c3, c4⟩ := told R5.out.hx
                go_wp2_with fail
                refine RP.out.mono ?_
                rintro e w6 ⟨rfl, hbel, hg⟩
                obtain ⟨U', r6⟩ := R5.out.refT hg
                have R6 := hid r6
                have F6 := hid (F5.out.ref hbel)
                have NU := hid (num_fe (E0.out.later R6.out.ex.bel) F6.out)
                clear RP hg r6 hbel c0 c1 c2 c3 c4
                go_wp2_with fail
                refine NU.out.mono ?_
                rintro e w7 ⟨rfl, b7⟩
                have X7 := hid (R6.out.later b7).ex
                clear NU b7
                go_wp2_with fail
                go_meet
                exact ⟨s', S', U', X7.out⟩
              · have q2 : (x.kind == 2) = false := by simp [hk2]
                clear hk2
                by_cases hk3 : x.kind = 3
                · have q3 : (x.kind == 3) = true := by simp [hk3]
                  clear hk3
                  obtain ⟨m, g, s', hcc, hrr⟩ := both_turn s x.node x.n false
                  have CP := hid (turn_any (W := w4) x false q2 fun W1 hb => hcc Ad _ W1 rb S (R4.out.ex.col.later hb) (E0.out.later (R4.out.ex.bel.trans (hb.mono R4.out.ex.bel.size))).three)
                  have RR := hid hrr
                  obtain ⟨c0, c1, c2, c3, c4⟩ := told R4.out.hx
                  clear hcc hrr
                  go_wp2_with fail
                  refine CP.out.mono ?_
                  rintro e w5 ⟨fv, rfl, fe, hg⟩
                  obtain ⟨S', r5⟩ := R4.out.colT hg
                  have R5 := hid r5
                  have F5 := hid fe
                  have RP := hid (RR.out _ w5 ub U R5.out.ex.ref)
                  clear CP hg fe r5 c0 c1 c2 c3 c4 RR
                  obtain ⟨c0, c1, c2, c3, c4⟩ := told R5.out.hx
                  go_wp2_with fail
                  refine RP.out.mono ?_
                  rintro e w6 ⟨rfl, hbel, hg⟩
                  obtain ⟨U', r6⟩ := R5.out.refT hg
                  have R6 := hid r6
                  have F6 := hid (F5.out.ref hbel)
                  have NU := hid (num_fe (E0.out.later R6.out.ex.bel) F6.out)
                  clear RP hg r6 hbel c0 c1 c2 c3 c4
                  go_wp2_with fail
                  refine NU.out.mono ?_
                  rintro e w7 ⟨rfl, b7⟩
                  have X7 := hid (R6.out.later b7).ex
                  clear NU b7
                  go_wp2_with fail
                  go_meet
                  exact ⟨s', S', U', X7.out⟩
                · have q3 : (x.kind == 3) = false := by simp [hk3]
                  clear hk3
                  by_cases hk4 : x.kind = 4
                  · have q4 : (x.kind == 4) = true := by simp [hk4]
                    clear hk4
                    obtain ⟨ol, g, s', hol, hcc, hrr⟩ := both_way s x.node x.n
                    have CP := hid (hcc Ad _ w4 rb S R4.out.ex.col (E0.out.later R4.out.ex.bel).three)
                    have RR := hid hrr
                    have HOL : Hid (ol.length ≤ 100000) := by show ol.length ≤ 100000; omega
                    obtain ⟨c0, c1, c2, c3, c4⟩ := told R4.out.hx
                    clear hcc hrr hol
                    go_wp2_with fail
                    refine CP.out.mono ?_
                    rintro e w5 ⟨lv, fv, rfl, fe, il, hg⟩
                    obtain ⟨S', r5⟩ := R4.out.colT hg
                    have R5 := hid r5
                    have F5 := hid fe
                    have I5 := hid il
                    have RP := hid (RR.out _ w5 ub U R5.out.ex.ref)
                    clear CP hg fe r5 il c0 c1 c2 c3 c4 RR
                    obtain ⟨c0, c1, c2, c3, c4⟩ := told R5.out.hx
                    go_wp2_with fail
                    refine RP.out.mono ?_
                    rintro e w6 ⟨kv, rfl, ik, hbel, hg⟩
                    have I6 : Hid (Ints w4.heap.size w6 lv ol) := by
                      obtain ⟨U', -, st, -⟩ := hg
                      exact I5.out.kept st fun k hk e => by
                        have := (I5.out.lt k hk).1
                        have := (R4.out.ex.ref.lt k e).2
                        omega
                    obtain ⟨U', r6⟩ := R5.out.refT hg
                    have R6 := hid r6
                    have F6 := hid (F5.out.ref hbel)
                    have SM := hid (same_any I6.out ik HOL.out)
                    clear RP hg r6 hbel c0 c1 c2 c3 c4 ik
                    go_wp2_with fail
                    refine SM.out.mono ?_
                    rintro e w7 ⟨rfl, b7⟩
                    have R7 := hid (R6.out.later b7)
                    have F7 := hid (F6.out.later b7)
                    have NU := hid (num_fe (E0.out.later R7.out.ex.bel) F7.out)
                    clear SM b7
                    go_wp2_with fail
                    refine NU.out.mono ?_
                    rintro e w8 ⟨rfl, b8⟩
                    have X8 := hid (R7.out.later b8).ex
                    clear NU b8
                    go_wp2_with fail
                    go_meet
                    exact ⟨s', S', U', X8.out⟩
                  · have q4 : (x.kind == 4) = false := by simp [hk4]
                    clear hk4
                    obtain ⟨l, ask⟩ := asks R4.out.ex XW.out.1 XW.out.2
                    have AS := hid ask
                    have KC : Hid (∀ W', Below w4.heap.size w4 W' → W'.cell? ⟨bx, 1, none⟩ = some (.int .u32 (x.m : Int)) ∧ W'.cell? ⟨bx, 2, none⟩ = some (.int .u32 (x.w : Int))) := by
                      intro W' hb
                      have y := told (blk_seen hb (Nat.le_refl _) R4.out.hx)
                      exact ⟨y.c1, y.c2⟩
                    clear ask
                    go_wp2_with fail
                    go_region_held3 (fun W' => W'.cell? ⟨bx, 1, none⟩ = some (.int .u32 (x.m : Int)) ∧ W'.cell? ⟨bx, 2, none⟩ = some (.int .u32 (x.w : Int))) (first | exact KC.out _ (by assumption) | exact KC.out _ (Below.refl _ _).drew | exact KC.out _ (Below.refl _ _))
                      (first
                        | (go_at_call 20; refine (AS.out.c20 _ (Below.refl _ _).drew).mono ?_; rintro e w7 ⟨v7, rfl, hi7, hb7⟩)
                        | (go_at_call 21; refine (AS.out.c21 _ (by assumption)).mono ?_; rintro e w8 ⟨v8, rfl, hi8, hb78, hb8⟩)
                        | (go_at_call 19; refine (AS.out.c19 _ _ _ _ _ (by assumption) (hi7.later hb78) hi8).mono ?_; rintro e w9 ⟨rfl, hb9⟩))
                    all_goals
                      have X9 := hid (R4.out.later hb9).ex
                      clear AS KC hb7 hb78 hb8 hb9 hi7 hi8
                      go_wp2_with fail
                      go_meet
                      exact ⟨s, S, U, X9.out⟩
          case rest =>
            rename World => wx
            obtain ⟨s', S', U', HX'⟩ := hcut
            clear R4 XW
            obtain ⟨la, lc, u1⟩ := HX'.out.ref.c1
            have LN := hid (fun j => atl_len (HX'.out.col.later (drewN_below wx j)))
            have hsm : (s'.l.length : Int) ≤ 65536 := by have := HX'.out.col.ok.small; omega
            go_wp2_with fail
            go_quiet ((go_at_call 22; exact Calls.quiet_of_same (LN.out _)))
            clear LN u1
            go_wp2_with fail
            go_roundg (100 - (k + 1))
            case measure => omega
            case rel => exact ⟨k + 1, by omega, rfl, by go_num, s', S', U', HX'.out.later (drewN_below _ _)⟩
        · have h2i : ¬ ((k : Int) < 100) := by omega
          go_wp2_with fail
          go_meet
          exact ⟨s, S, U, HX.out⟩
      · have h1i : ¬ ((k : Int) < (cl.length : Int)) := by omega
        go_wp2_with fail
        go_meet
        exact ⟨s, S, U, HX.out⟩
  case rest =>
    clear X3
    rename World => wo
    obtain ⟨s, S, U, HX⟩ := hcut
    have hsm : (s.l.length : Int) ≤ 65536 := by have := HX.out.col.ok.small; omega
    obtain ⟨la, lc, u1⟩ := HX.out.ref.c1
    go_wp2_with fail
    go_loopg [22, 23, 24] s.l.length (fun gh i _ _ wz => ∃ q : Nat, q ≤ s.l.length ∧ gh = s.l.length - q ∧ i = .int .i64 (q : Int) ∧ wz = wo)
    case atStart => exact ⟨0, Nat.zero_le _, rfl, rfl, rfl⟩
    case round =>
      obtain ⟨q, hq, rfl, rfl, rfl⟩ := hrel
      rename World => wz
      by_cases hql : q < s.l.length
      · have hqi : (q : Int) < (s.l.length : Int) := by omega
        obtain ⟨m, hm⟩ := at_lt s.l q hql
        have MK := hid (mask_some HX.out.col q m hm)
        obtain ⟨g, rfl, d0⟩ := HX.out.ref.cell u1 hm
        clear hm
        go_wp2_with fail
        refine MK.out.mono ?_
        rintro e w5 ⟨rfl, rfl⟩
        clear MK
        go_wp2_with fail
        go_roundg (s.l.length - (q + 1))
        case measure => omega
        case rel => exact ⟨q + 1, by omega, rfl, by go_num, rfl⟩
      · have hqi : ¬ ((q : Int) < (s.l.length : Int)) := by omega
        go_wp2_with fail
        go_ret
        exact ⟨rfl, HX.out.bel⟩
end Go.Proofs.YtmiaepjlifceeaaDoor
