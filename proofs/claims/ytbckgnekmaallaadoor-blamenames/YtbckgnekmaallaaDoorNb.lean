/- BlameNames' walk. -/
import Derived.Test.YtbckgnekmaallaaDoorNa
import Derived.Deep.WholeRow
namespace Go.Proofs.YtbckgnekmaallaaDoor
open Go.RowKit Go.Shelf
theorem Tryd.info39 : (Tryd.prog.info? 39).map (·.size) = some 19 := by kernel_rfl
theorem st39 {ops : Array Oper} {rest : List Oper} {o : Oper} {a : Act} {Q : Exit → Act → World → Prop} {w : World} {c c' : Array Value} (hgd : o.guard = none) (hd : o.dst = none) (ho : o.op = .store 39 (.tmp 5) (.tmp 34)) (hx : a.eval (.tmp 5) = .pointer (some ⟨w.heap.size, 0, none⟩)) (hy : a.eval (.tmp 34) = .agg c') (hc : c.size = 19) (hc' : c'.size = 19) (h1 : c'.all (·.oneCell') = true) (h : wpList Tryd.prog ops Q rest a (w.alloc (.cells c' 39))) : wpList Tryd.prog ops Q (o :: rest) a (w.alloc (.cells c 39)) := by
  refine wpList_store_row hgd 39 (.tmp 5) (.tmp 34) ho w.heap.size c' hx hy 39 c (heap_alloc_last w _) (by rw [hc']; exact Tryd.info39) (by omega) h1 ?_
  rw [hd, World.setRow_alloc_new]
  exact h
def parts19 (Ad : Nat → Addr) : List (Nat × Value) := [(0, .nilIface), (1, .iface 80 (.pointer (some (Ad 1)))), (2, .iface 80 (.pointer (some (Ad 2)))), (3, .iface 80 (.pointer (some (Ad 3)))), (4, .iface 80 (.pointer (some (Ad 4)))), (5, .iface 80 (.pointer (some (Ad 5)))), (6, .iface 80 (.pointer (some (Ad 6)))), (7, .iface 80 (.pointer (some (Ad 7)))), (8, .iface 80 (.pointer (some (Ad 8)))), (9, .iface 80 (.pointer (some (Ad 9)))), (10, .iface 80 (.pointer (some (Ad 10)))), (11, .iface 80 (.pointer (some (Ad 11)))), (12, .iface 80 (.pointer (some (Ad 12)))), (13, .iface 80 (.pointer (some (Ad 13)))), (14, .iface 80 (.pointer (some (Ad 14)))), (15, .iface 80 (.pointer (some (Ad 15)))), (16, .iface 80 (.pointer (some (Ad 16)))), (17, .iface 80 (.pointer (some (Ad 17)))), (18, .iface 80 (.pointer (some (Ad 18))))]
theorem built39 (Ad : Nat → Addr) : Tryd.prog.built 39 (parts19 Ad) = some (arr19 Ad) := by kernel_rfl
theorem bd39 {ops : Array Oper} {rest : List Oper} {o : Oper} {a : Act} {Q : Exit → Act → World → Prop} {w : World} (Ad : Nat → Addr) (parts : Array (Nat × Operand)) (hgd : o.guard = none) (ho : o.op = .build 39 parts) (hp : (parts.map fun (i, x) => (i, a.eval x)).toList = parts19 Ad) (h : wpList Tryd.prog ops Q rest (a.put o.dst (.agg (arr19 Ad))) w) : wpList Tryd.prog ops Q (o :: rest) a w := by
  refine wpList_build hgd 39 parts ho ?_ ?_
  · rw [hp, built39]; rfl
  · rw [hp, built39]; exact h
theorem one19 (Ad : Nat → Addr) : (arr19 Ad).all (·.oneCell') = true := by kernel_rfl
theorem size19 (Ad : Nat → Addr) : (arr19 Ad).size = 19 := by kernel_rfl
theorem row2_errs (w : World) (x y : Value) : Errs (w.alloc (.cells #[x, y] 26)).heap.size (w.alloc (.cells #[x, y] 26)) (.slice (some ⟨w.heap.size, 0, none⟩) 2 2) [x, y] := by
  obtain ⟨h0, h1⟩ := cell_new2 w x y 26
  refine ⟨_, 2, rfl, .inr ⟨w.heap.size, by simp, rfl, fun j z hz => ?_⟩⟩
  match j, hz with
  | 0, hz => simp at hz; subst hz; exact h0
  | 1, hz => simp at hz; subst hz; exact h1
set_option maxHeartbeats 4000000 in
set_option maxRecDepth 100000 in
theorem names_any (w : World) (s : ByteArray) (o : Int) (Ad : Nat → Addr) (hE : Env w Ad) :
    Calls Tryd.prog 4 #[.string s, .int .i64 o] w fun e w' => e = .returned (.bool true) ∧ Below w.heap.size w w' := by
  obtain ⟨u, r, hr, eu, er⟩ := rem18 o
  obtain ⟨k, hk1, hk2, ek⟩ : ∃ k : Nat, 1 ≤ k ∧ k ≤ 18 ∧ 1 + (r : Int) = (k : Int) := ⟨r + 1, by omega, by omega, by push_cast; omega⟩
  have HE := hid hE
  have AC := hid (awake_any w Ad hE)
  have hri : (r : Int) < 18 := by omega
  clear hE
  by_cases hs : s.size ≤ 100
  · have hsi : ¬ ((100 : Int) < (s.size : Int)) := by omega
    have hsj : (s.size : Int) ≤ 100 := by omega
    go_enter Tryd.func4, Tryd.ntmps4
    go_wp2_with fail
    refine AC.out.mono ?_
    rintro e w1 ⟨rfl, hb1⟩
    have B1 := hid hb1
    have E1 := hid (HE.out.later hb1)
    have c1 : w1.cell? ⟨0, 0, none⟩ = some (.iface 80 (.pointer (some (Ad 1)))) := E1.out.cell 1 (by decide) (by decide)
    have c2 : w1.cell? ⟨1, 0, none⟩ = some (.iface 80 (.pointer (some (Ad 2)))) := E1.out.cell 2 (by decide) (by decide)
    have c3 : w1.cell? ⟨2, 0, none⟩ = some (.iface 80 (.pointer (some (Ad 3)))) := E1.out.cell 3 (by decide) (by decide)
    have c4 : w1.cell? ⟨3, 0, none⟩ = some (.iface 80 (.pointer (some (Ad 4)))) := E1.out.cell 4 (by decide) (by decide)
    have c5 : w1.cell? ⟨4, 0, none⟩ = some (.iface 80 (.pointer (some (Ad 5)))) := E1.out.cell 5 (by decide) (by decide)
    have c6 : w1.cell? ⟨5, 0, none⟩ = some (.iface 80 (.pointer (some (Ad 6)))) := E1.out.cell 6 (by decide) (by decide)
    have c7 : w1.cell? ⟨6, 0, none⟩ = some (.iface 80 (.pointer (some (Ad 7)))) := E1.out.cell 7 (by decide) (by decide)
    have c8 : w1.cell? ⟨7, 0, none⟩ = some (.iface 80 (.pointer (some (Ad 8)))) := E1.out.cell 8 (by decide) (by decide)
    have c9 : w1.cell? ⟨8, 0, none⟩ = some (.iface 80 (.pointer (some (Ad 9)))) := E1.out.cell 9 (by decide) (by decide)
    have c10 : w1.cell? ⟨9, 0, none⟩ = some (.iface 80 (.pointer (some (Ad 10)))) := E1.out.cell 10 (by decide) (by decide)
    have c11 : w1.cell? ⟨10, 0, none⟩ = some (.iface 80 (.pointer (some (Ad 11)))) := E1.out.cell 11 (by decide) (by decide)
    have c12 : w1.cell? ⟨11, 0, none⟩ = some (.iface 80 (.pointer (some (Ad 12)))) := E1.out.cell 12 (by decide) (by decide)
    have c13 : w1.cell? ⟨12, 0, none⟩ = some (.iface 80 (.pointer (some (Ad 13)))) := E1.out.cell 13 (by decide) (by decide)
    have c14 : w1.cell? ⟨13, 0, none⟩ = some (.iface 80 (.pointer (some (Ad 14)))) := E1.out.cell 14 (by decide) (by decide)
    have c15 : w1.cell? ⟨14, 0, none⟩ = some (.iface 80 (.pointer (some (Ad 15)))) := E1.out.cell 15 (by decide) (by decide)
    have c16 : w1.cell? ⟨15, 0, none⟩ = some (.iface 80 (.pointer (some (Ad 16)))) := E1.out.cell 16 (by decide) (by decide)
    have c17 : w1.cell? ⟨16, 0, none⟩ = some (.iface 80 (.pointer (some (Ad 17)))) := E1.out.cell 17 (by decide) (by decide)
    have c18 : w1.cell? ⟨17, 0, none⟩ = some (.iface 80 (.pointer (some (Ad 18)))) := E1.out.cell 18 (by decide) (by decide)
    clear hb1 AC
    go_wp2_with (first | (refine bd39 Ad _ rfl rfl rfl ?_) | (refine st39 (c' := arr19 Ad) rfl rfl rfl rfl rfl rfl (size19 Ad) (one19 Ad) ?_))
    clear c1 c2 c3 c4 c5 c6 c7 c8 c9 c10 c11 c12 c13 c14 c15 c16 c17 c18
    obtain ⟨wl, hwl⟩ : ∃ wl, wl = w1.alloc (.cells (arr19 Ad) 39) := ⟨_, rfl⟩
    rw [← hwl]
    have CL : Hid (∀ j, 1 ≤ j → j ≤ 18 → wl.cell? ⟨w1.heap.size, j, none⟩ = some (.iface 80 (.pointer (some (Ad j))))) := fun j h1 h2 => by rw [hwl]; exact cell19 Ad w1 39 j h1 h2
    have BL : Hid (Below w.heap.size w wl) := by show Below _ _ _; rw [hwl]; exact B1.out.alloc B1.out.size _
    have EL := hid (HE.out.later BL.out)
    have hA : w1.heap.size < wl.heap.size := by rw [hwl]; simp
    generalize Value.agg (arr19 Ad) = ag
    generalize Value.iface 80 (.pointer (some (Ad 1))) = x1
    generalize Value.iface 80 (.pointer (some (Ad 2))) = x2
    generalize Value.iface 80 (.pointer (some (Ad 3))) = x3
    generalize Value.iface 80 (.pointer (some (Ad 4))) = x4
    generalize Value.iface 80 (.pointer (some (Ad 5))) = x5
    generalize Value.iface 80 (.pointer (some (Ad 6))) = x6
    generalize Value.iface 80 (.pointer (some (Ad 7))) = x7
    generalize Value.iface 80 (.pointer (some (Ad 8))) = x8
    generalize Value.iface 80 (.pointer (some (Ad 9))) = x9
    generalize Value.iface 80 (.pointer (some (Ad 10))) = x10
    generalize Value.iface 80 (.pointer (some (Ad 11))) = x11
    generalize Value.iface 80 (.pointer (some (Ad 12))) = x12
    generalize Value.iface 80 (.pointer (some (Ad 13))) = x13
    generalize Value.iface 80 (.pointer (some (Ad 14))) = x14
    generalize Value.iface 80 (.pointer (some (Ad 15))) = x15
    generalize Value.iface 80 (.pointer (some (Ad 16))) = x16
    generalize Value.iface 80 (.pointer (some (Ad 17))) = x17
    generalize Value.iface 80 (.pointer (some (Ad 18))) = x18
    generalize w1.heap.size = A at *
    generalize decide ((100 : Int) < (s.size : Int)) = bs at *
    clear hwl er ek hri hsi hsj hs E1 B1 hr eu
    have hki : (k : Int) ≤ 18 := by omega
    go_loopw [7, 8, 9, 10] (fun i _ _ _ wr => ∃ n : Nat, 1 ≤ n ∧ n ≤ 19 ∧ i = .int .i64 (n : Int) ∧ Below wl.heap.size wl wr) (fun i _ _ _ _ => 20 - (intOf i).toNat)
    case atStart => exact ⟨1, by omega, by omega, rfl, Below.refl _ _⟩
    case round =>
      obtain ⟨n, hn1, hn2, rfl, hb⟩ := hrel
      have HB := hid hb
      clear hb
      by_cases hlt : n ≤ 18
      · have hni : (n : Int) ≤ 18 := by omega
        have OC := hid (of_num wr Ad (EL.out.later HB.out) n hn1 hlt)
        go_wp2_with fail
        refine OC.out.mono ?_
        rintro e w2 ⟨rfl, hb2⟩
        have B2 := hid (HB.out.trans (hb2.mono HB.out.size))
        clear hb2 OC HB
        have TC := hid (at_chain Ad s 0 (.iface 80 (.pointer (some (Ad n)))) ([], n) w2 ⟨rfl, hn1, hlt, by simp⟩)
        go_wp2_with fail
        refine TC.out.mono ?_
        rintro e w3 ⟨v3, rfl, ch3, hb3⟩
        have B3 := hid (B2.out.trans (hb3.mono B2.out.size))
        have C3 := hid ch3
        obtain ⟨t3, q3, rfl, -⟩ := ch3.1.shape
        have OK := hid (of_num w3 Ad (EL.out.later B3.out) k hk1 hk2)
        clear hb3 TC B2 ch3
        go_wp2_with fail
        refine OK.out.mono ?_
        rintro e w4 ⟨rfl, hb4⟩
        have B4 := hid (B3.out.trans (hb4.mono B3.out.size))
        have C4 := hid (C3.out.move hb4 hb4.size)
        clear hb4 OK B3 C3
        have hb5 : Below w4.heap.size w4 (w4.alloc (.cells #[.iface t3 q3, .iface 80 (.pointer (some (Ad k)))] 26)) := (Below.refl _ _).alloc (Nat.le_refl _) _
        have AL := hid (all_top Ad 1 (.slice (some ⟨w4.heap.size, 0, none⟩) 2 2) [(.iface t3 q3, [([s], n)]), (.iface 80 (.pointer (some (Ad k))), [([], k)])] _ (row2_errs w4 (.iface t3 q3) (.iface 80 (.pointer (some (Ad k))))) (by
          intro u hu
          rcases List.mem_cons.1 hu with rfl | hu
          · exact .one _ _ (C4.out.move hb5 hb5.size)
          · simp at hu; subst hu; exact .one _ _ ⟨rfl, hk1, hk2, by simp⟩) (by simp) (by simp))
        have B5 := hid (B4.out.trans (hb5.mono B4.out.size))
        have C5 := hid (C4.out.move hb5 hb5.size)
        clear hb5 B4 C4
        go_wp2_with fail
        refine AL.out.mono ?_
        rintro e w6 ⟨v6, rfl, tp6, hb6⟩
        have B6 := hid (B5.out.trans (hb6.mono B5.out.size))
        have C6 := hid (C5.out.move hb6 hb6.size)
        have T6 : Hid (Top Ad w6.heap.size w6 1 v6 [([s], n), ([], k)]) := tp6
        obtain ⟨t6, q6, rfl⟩ := T6.out.some (by simp)
        have E6 := hid (EL.out.later B6.out)
        clear hb6 AL B5 C5 tp6
        go_wp2_with fail
        go_loopw [10] (fun j wr => ∃ m : Nat, 1 ≤ m ∧ m ≤ 19 ∧ j = .int .i64 (m : Int) ∧ Below w6.heap.size w6 wr) (fun j _ => 20 - (intOf j).toNat)
        case atStart => exact ⟨1, by omega, by omega, rfl, Below.refl _ _⟩
        case round =>
          obtain ⟨m, hm1, hm2, rfl, hb⟩ := hrel
          have B7 := hid hb
          have E7 := hid (E6.out.later hb)
          clear hb
          by_cases hlm : m ≤ 18
          · have hmi : (m : Int) ≤ 18 := by omega
            have cm : wr.cell? ⟨A, m, none⟩ = some (.iface 80 (.pointer (some (Ad m)))) := ((B6.out.trans (B7.out.mono B6.out.size)).cell (p := ⟨A, m, none⟩) hA).trans (CL.out m hm1 hlm)
            have I1 : Hid (Calls Tryd.prog 20 #[.iface t3 q3, .iface 80 (.pointer (some (Ad m)))] wr fun e w' => e = .returned (.bool (decide (n = m))) ∧ Below wr.heap.size wr w') := by
              have := is_top Ad m 1 (.iface t3 q3) [([s], n)] wr E7.out (.one _ _ (C6.out.move B7.out B7.out.size)) (by simp) ⟨hm1, hlm⟩
              simp at this
              exact this
            have T7 := hid (T6.out.later B7.out)
            have I2 : Hid (∀ w8, Below wr.heap.size wr w8 → Calls Tryd.prog 20 #[.iface t6 q6, .iface 80 (.pointer (some (Ad m)))] w8 fun e w' => e = .returned (.bool (decide (n = m) || decide (k = m))) ∧ Below w8.heap.size w8 w') := by
              intro w8 hb8
              have := is_top Ad m 1 (.iface t6 q6) [([s], n), ([], k)] w8 (E7.out.later hb8) (T7.out.later hb8) (by simp) ⟨hm1, hlm⟩
              simp at this
              exact this
            by_cases hq : n = m
            · have q1 : ((n : Int) == (m : Int)) = true := by simp [hq]
              have q1' : (n : Int) = (m : Int) := by omega
              simp only [hq, decide_true, Bool.true_or] at I1 I2
              clear hq q1'
              go_wp2_with fail
              refine I1.out.mono ?_
              rintro e w8 ⟨rfl, hb8⟩
              have B8 := hid (B7.out.trans (hb8.mono B7.out.size))
              have J2 := hid (I2.out w8 hb8)
              have cm2 : w8.cell? ⟨A, m, none⟩ = some (.iface 80 (.pointer (some (Ad m)))) := (hb8.cell (p := ⟨A, m, none⟩) (World.block_lt_of_cell? wr _ cm)).trans cm
              clear hb8 I1 I2 T7 cm
              go_wp2_with fail
              refine J2.out.mono ?_
              rintro e w9 ⟨rfl, hb9⟩
              have B9 := hid (B8.out.trans (hb9.mono B8.out.size))
              clear hb9 J2 cm2
              go_wp2_with fail
              go_roundw
              case rel => exact ⟨m + 1, by omega, by omega, by go_num, B9.out⟩
              case measure => simp [intOf]; omega
            · have q1 : ((n : Int) == (m : Int)) = false := by simp; omega
              by_cases hk : k = m
              · have q2 : ((k : Int) == (m : Int)) = true := by simp [hk]
                rw [decide_eq_false hq] at I1
                simp only [decide_eq_false hq, decide_eq_true hk, Bool.false_or] at I2
                clear hq hk
                go_wp2_with fail
                refine I1.out.mono ?_
                rintro e w8 ⟨rfl, hb8⟩
                have B8 := hid (B7.out.trans (hb8.mono B7.out.size))
                have J2 := hid (I2.out w8 hb8)
                have cm2 : w8.cell? ⟨A, m, none⟩ = some (.iface 80 (.pointer (some (Ad m)))) := (hb8.cell (p := ⟨A, m, none⟩) (World.block_lt_of_cell? wr _ cm)).trans cm
                clear hb8 I1 I2 T7 cm
                go_wp2_with fail
                refine J2.out.mono ?_
                rintro e w9 ⟨rfl, hb9⟩
                have B9 := hid (B8.out.trans (hb9.mono B8.out.size))
                clear hb9 J2 cm2
                go_wp2_with fail
                go_roundw
                case rel => exact ⟨m + 1, by omega, by omega, by go_num, B9.out⟩
                case measure => simp [intOf]; omega
              · have q2 : ((k : Int) == (m : Int)) = false := by simp; omega
                rw [decide_eq_false hq] at I1
                simp only [decide_eq_false hq, decide_eq_false hk, Bool.false_or] at I2
                clear hq hk
                go_wp2_with fail
                refine I1.out.mono ?_
                rintro e w8 ⟨rfl, hb8⟩
                have B8 := hid (B7.out.trans (hb8.mono B7.out.size))
                have J2 := hid (I2.out w8 hb8)
                have cm2 : w8.cell? ⟨A, m, none⟩ = some (.iface 80 (.pointer (some (Ad m)))) := (hb8.cell (p := ⟨A, m, none⟩) (World.block_lt_of_cell? wr _ cm)).trans cm
                clear hb8 I1 I2 T7 cm
                go_wp2_with fail
                refine J2.out.mono ?_
                rintro e w9 ⟨rfl, hb9⟩
                have B9 := hid (B8.out.trans (hb9.mono B8.out.size))
                clear hb9 J2 cm2
                go_wp2_with fail
                go_roundw
                case rel => exact ⟨m + 1, by omega, by omega, by go_num, B9.out⟩
                case measure => simp [intOf]; omega
          · have hmi : ¬ (m : Int) ≤ 18 := by omega
            have hmj : (18 : Int) < (m : Int) := by omega
            have N1 : Hid (Calls Tryd.prog 12 #[.iface t3 q3] wr fun e w' => e = .returned (.int .i64 (n : Int)) ∧ Below wr.heap.size wr w') := by
              have := number_some Ad (.iface t3 q3) [([s], n)] 1 wr E7.out (C6.out.move B7.out B7.out.size).tr (by omega) ⟨_, _, rfl⟩
              rw [show [([s], n)].map Prod.snd = [n] from rfl, num_one n (by omega) hn1] at this
              exact this
            have N2 : Hid (∀ w8, Below wr.heap.size wr w8 → Calls Tryd.prog 12 #[.iface t6 q6] w8 fun e w' => e = .returned (.int .i64 ((min n k : Nat) : Int)) ∧ Below w8.heap.size w8 w') := by
              intro w8 hb8
              have := number_some Ad (.iface t6 q6) [([s], n), ([], k)] 1 w8 (E7.out.later hb8) ((T6.out.later B7.out).later hb8).tr (by omega) ⟨_, _, rfl⟩
              rw [show [([s], n), ([], k)].map Prod.snd = [n, k] from rfl, num_two n (by omega) k (by omega) hn1 hk1] at this
              exact this
            go_wp2_with fail
            refine N1.out.mono ?_
            rintro e w8 ⟨rfl, hb8⟩
            have B8 := hid (B7.out.trans (hb8.mono B7.out.size))
            have J2 := hid (N2.out w8 hb8)
            clear hb8 N1 N2
            go_wp2_with fail
            refine J2.out.mono ?_
            rintro e w9 ⟨rfl, hb9⟩
            have B9 := hid (B6.out.trans ((B8.out.trans (hb9.mono B8.out.size)).mono B6.out.size))
            clear hb9 J2
            have hmin : (((min n k : Nat) : Int) != min (n : Int) (k : Int)) = false := by rw [bne_eq_false_iff_eq]; omega
            go_wp2_with fail
            go_roundw
            case rel => exact ⟨n + 1, by omega, by omega, by go_num, B9.out⟩
            case measure => simp [intOf]; omega

      · have hni : ¬ (n : Int) ≤ 18 := by omega
        have hnj : (18 : Int) < (n : Int) := by omega
        have E2 := hid (EL.out.later HB.out)
        have BB := hid (BL.out.trans (HB.out.mono BL.out.size))
        have NN := hid (num_new Ad ⟨#[120]⟩ wr E2.out)
        go_wp2_with fail
        refine (of_zero _).mono ?_
        rintro e w' ⟨rfl, rfl⟩
        go_wp2_with fail
        refine (of_nineteen _).mono ?_
        rintro e w' ⟨rfl, rfl⟩
        go_wp2_with fail
        refine (number_nil _).mono ?_
        rintro e w' ⟨rfl, rfl⟩
        go_wp2_with fail
        refine (new_any _ _).mono ?_
        rintro e w' ⟨rfl, rfl⟩
        go_wp2_with fail
        refine NN.out.mono ?_
        rintro e w9 ⟨rfl, hb9⟩
        have B9 := hid (BB.out.trans (hb9.mono BB.out.size))
        clear hb9
        go_wp2_with fail
        go_ret
        exact ⟨rfl, B9.out⟩
  · have hsi : (100 : Int) < (s.size : Int) := by omega
    go_enter Tryd.func4, Tryd.ntmps4
    go_wp2_with fail
    refine AC.out.mono ?_
    rintro e w1 ⟨rfl, hb1⟩
    have B1 := hid hb1
    clear hb1 AC
    go_wp2_with fail
    go_ret
    exact ⟨rfl, B1.out⟩
end Go.Proofs.YtbckgnekmaallaaDoor
