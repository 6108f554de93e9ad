/- The document's Way. -/
import Derived.Test.YtmiaepjlifceeaaDoorCb
import Derived.Test.YtmiaepjlifceeaaDoorBe
namespace Go.Proofs.YtmiaepjlifceeaaDoor
open Go.RowKit Go.Shelf Go.Maps
theorem Wy.run_snoc (f : Nat → Nat → Nat) (t : Wy) (ds : List Nat) (c : Nat) : t.run f (ds ++ [c]) = (t.run f ds).stp f c := by
  unfold Wy.run
  rw [List.foldl_append]
  rfl
/-- How far the document's way is come: before it, behind the first half, behind both. -/
def wyK (l : List Nat) (i x y n : Nat) : Nat → Wy
  | 0 => ⟨x, l, [i]⟩
  | 1 => (⟨x, l, [i]⟩ : Wy).run wo (lst n (an x y))
  | _ => ((⟨x, l, [i]⟩ : Wy).run wo (lst n (an x y))).run wi (lst n (an y x))
theorem wyK_end {l : List Nat} {i x y n : Nat} (hn : n ≤ 16) (hx : x < 2 ^ n) (hy : y < 2 ^ n) : wyK l i x y n 2 = way l i x y := by
  unfold way
  rw [lst_more (an x y) n (Nat.lt_of_le_of_lt (an_le x y) hx) 32 (by omega), lst_more (an y x) n (Nat.lt_of_le_of_lt (an_le y x) hy) 32 (by omega)]
  rfl
theorem wyK_len1 (l : List Nat) (i x y n : Nat) : (wyK l i x y n 1).w.length ≤ 1 + n := by
  show ((⟨x, l, [i]⟩ : Wy).run wo (lst n (an x y))).w.length ≤ 1 + n
  rw [Wy.run_len]
  have := lst_len (an x y) n
  simp
  omega
/-- The document's way that is gone, in memory. -/
structure RW (B : Nat) (W : World) (ub n : Nat) (U0 U : Nat → Prop) (l : List Nat) (wv : Value) (wl : List Nat) (wr : World) : Prop where
  rer : Rer B wr ub ⟨n, l⟩ U
  st : St U0 W wr
  new : ∀ x, U x → U0 x ∨ W.heap.size ≤ x
  way : Ints W.heap.size wr wv wl
  nw : ∀ k, wv.ownBlock = some k → ¬ U k
section
variable {B : Nat} {W : World} {ub n : Nat} {U0 U : Nat → Prop} {l : List Nat} {wv : Value} {wl : List Nat} {wr w2 : World}
theorem RW.node {l' : List Nat} (h : RW B W ub n U0 U l wv wl wr) (hg : Rgo B ub ⟨n, l'⟩ U wr w2) : ∃ U', RW B W ub n U0 U' l' wv wl w2 := by
  obtain ⟨U', a, st, f⟩ := hg
  refine ⟨U', a, h.st.trans st fun x hx e => (h.new x e).elim id fun e => by omega, fun x e => ?_, h.way.kept st h.nw, fun k hk e => ?_⟩
  · rcases f x e with e | e
    · exact h.new x e
    · exact .inr (Nat.le_trans h.st.size e)
  · rcases f k e with e | e
    · exact h.nw k hk e
    · have := (h.way.lt k hk).2; omega
theorem RW.append {wv' : Value} {k : Nat} (h : RW B W ub n U0 U l wv wl wr) (hi : Ints W.heap.size w2 wv' (wl ++ [k])) (st : St (fun x => wv.ownBlock = some x) wr w2) (hat : wv'.ownBlock = wv.ownBlock ∨ ∃ x, wv'.ownBlock = some x ∧ wr.heap.size ≤ x) :
    RW B W ub n U0 U l wv' (wl ++ [k]) w2 := by
  refine ⟨h.rer.kept st fun k hk e => h.nw k e hk, h.st.trans st fun x hx e => by have := (h.way.lt x e).1; omega, h.new, hi, fun k hk e => ?_⟩
  rcases hat with a | ⟨x, a, b⟩
  · exact h.nw k (a ▸ hk) e
  · rw [a] at hk
    have := (h.rer.lt k e).2
    simp at hk
    omega
end
section
variable {B : Nat} {W W' : World} {ub : Nat} {s : AS} {U : Nat → Prop}
set_option maxHeartbeats 800000 in
set_option maxRecDepth 100000 in
theorem rway_none (h : Rer B W ub s U) (i j : Int) (hi : i < 0 ∨ (s.l.length : Int) ≤ i ∨ j < 0 ∨ (s.l.length : Int) ≤ j) :
    Calls Tryd.prog 18 #[.pointer (some ⟨ub, 0, none⟩), .int .i64 i, .int .i64 j] W fun e W' => e = .returned (.tuple #[.slice none 0 0, .int .i64 7]) ∧ Below W.heap.size W W' := by
  obtain ⟨la, lc, c1⟩ := h.c1
  clear h
  by_cases h1 : i < 0
  · clear hi
    go_enter Tryd.func18, Tryd.ntmps18
    go_wp2_with fail
    go_ret2
    exact ⟨rfl, Below.refl _ _⟩
  · by_cases h2 : (s.l.length : Int) ≤ i
    · clear hi
      go_enter Tryd.func18, Tryd.ntmps18
      go_wp2_with fail
      go_ret2
      exact ⟨rfl, Below.refl _ _⟩
    · by_cases h3 : j < 0
      · clear hi
        go_enter Tryd.func18, Tryd.ntmps18
        go_wp2_with fail
        go_ret2
        exact ⟨rfl, Below.refl _ _⟩
      · have h4 : (s.l.length : Int) ≤ j := by omega
        clear hi
        go_enter Tryd.func18, Tryd.ntmps18
        go_wp2_with fail
        go_ret2
        exact ⟨rfl, Below.refl _ _⟩
set_option maxHeartbeats 6400000 in
set_option maxRecDepth 100000 in
theorem rway_ok (h : Rer B W ub s U) (i j x y : Nat) (hi : s.l[i]? = some x) (hj : s.l[j]? = some y) :
    Calls Tryd.prog 18 #[.pointer (some ⟨ub, 0, none⟩), .int .i64 (i : Int), .int .i64 (j : Int)] W fun e W' => ∃ v, e = .returned (.tuple #[v, .int .i64 0]) ∧ Ints W.heap.size W' v (way s.l i x y).w ∧ Rgo B ub ⟨s.n, (way s.l i x y).l⟩ U W W' := by
  obtain ⟨la, lc, c1⟩ := h.c1
  have hil := (List.getElem?_eq_some_iff.1 hi).1
  have hjl := (List.getElem?_eq_some_iff.1 hj).1
  have bA := bAl W (.cells #[.int .i64 (i : Int)] 3)
  have hA := h.later bA
  have c1' := seen bA (Nat.le_refl _) c1
  obtain ⟨g, rfl, d0⟩ := hA.cell c1' hi
  obtain ⟨g', hg', d1⟩ := hA.cell c1' hj
  obtain rfl : g = g' := by simpa using hg'
  have hn := h.ok.n16
  have hni : (s.n : Int) ≤ 16 := by omega
  have hsm : (s.l.length : Int) ≤ 65536 := by have := h.ok.small; omega
  have h0 : ¬ ((i : Int) < 0) := by omega
  have h1 : ¬ ((s.l.length : Int) ≤ (i : Int)) := by omega
  have h2 : ¬ ((j : Int) < 0) := by omega
  have h3 : ¬ ((s.l.length : Int) ≤ (j : Int)) := by omega
  have h4 : (i : Int) < (s.l.length : Int) := by omega
  have h5 : (j : Int) < (s.l.length : Int) := by omega
  have hub : ub < W.heap.size := World.block_lt_of_cell? W _ c1
  have hun : ¬ (ub = W.heap.size) := by omega
  have XM := hid (h.u32 hi)
  have YM := hid (h.u32 hj)
  have WE := hid (wyK_end (l := s.l) (i := i) hn XM.out.1 YM.out.1)
  have hgl : g < (W.alloc (.cells #[.int .i64 (i : Int)] 3)).heap.size := World.block_lt_of_cell? _ _ d0
  have I1 : Hid (RW B W ub s.n U U s.l (.slice (some ⟨W.heap.size, 0, none⟩) 1 1) [i] (W.alloc (.cells #[.int .i64 (i : Int)] 3))) := by
    refine ⟨hA, St.of_below bA, fun _ e => .inl e, ints_one W i, fun k hk e => ?_⟩
    have := (h.lt k e).2
    simp [Value.ownBlock] at hk
    omega
  have HI := hid hi
  obtain ⟨W1, hW1⟩ : ∃ W1, W1 = W.alloc (.cells #[.int .i64 (i : Int)] 3) := ⟨_, rfl⟩
  rw [← hW1] at I1 d0 d1 c1' hgl
  have HW1 := hid hW1
  clear h hi hj hA bA hg' hW1
  go_enter Tryd.func18, Tryd.ntmps18
  go_upto_region 4 with fail
  rw [← HW1.out]
  clear c1
  go_wp2_with fail
  clear d0 d1 hgl c1'
  go_loopg [8, 11, 12, 13, 14, 15, 16, 17] 2 (fun gh ov av kv _ _ _ _ _ wr => ∃ (k at' : Nat) (U1 : Nat → Prop) (t : Wy), k ≤ 2 ∧ gh = 2 - k ∧ kv = .int .i64 (k : Int) ∧ av = .int .i64 (at' : Int) ∧ Hid (t = wyK s.l i x y s.n k) ∧ Hid (t.l[at']? = some t.m) ∧ Hid (t.m < 2 ^ s.n) ∧ Hid (RW B W ub s.n U U1 t.l ov t.w wr))
  case atStart => exact ⟨0, i, U, ⟨x, s.l, [i]⟩, by omega, rfl, rfl, rfl, rfl, HI.out, XM.out.1, I1.out⟩
  case round =>
    clear I1
    rename World => wo'
    obtain ⟨k, at', U1, t, hk, rfl, rfl, rfl, HT, HA, HM, HR⟩ := hrel
    by_cases hk0 : k = 0
    · subst hk0
      go_wp2_with fail
      go_loopg [8, 11, 13, 14, 15, 16, 17] s.n (fun gh ov av cv _ _ _ _ wr => ∃ (c at' : Nat) (U1 : Nat → Prop) (u : Wy), c ≤ s.n ∧ gh = s.n - c ∧ cv = .int .i64 (c : Int) ∧ av = .int .i64 (at' : Int) ∧ Hid (u = t.run wo (lst c (an x y))) ∧ Hid (u.l[at']? = some u.m) ∧ Hid (u.m < 2 ^ s.n) ∧ Hid (RW B W ub s.n U U1 u.l ov u.w wr))
      case atStart => exact ⟨0, at', U1, t, Nat.zero_le _, rfl, rfl, rfl, rfl, HA.out, HM.out, HR.out⟩
      case round =>
        clear HA HM HR
        rename World => wr
        obtain ⟨c, at'', U2, u, hc, rfl, rfl, rfl, HU, HA, HM, HR⟩ := hrel
        have c0 := HR.out.rer.c0
        by_cases hcn : c < s.n
        · have hci : (c : Int) < (s.n : Int) := by omega
          have hcj : (c : Int) ≤ 32 := by omega
          have rx := tmod_one x c
          have ry := tmod_one y c
          have LS := hid (show lst (c + 1) (an x y) = if (an x y).testBit c = true then lst c (an x y) ++ [c] else lst c (an x y) from rfl)
          have ZB := hid (an_bit x y c XM.out.2 YM.out.2)
          cases hbx : x.testBit c <;> cases hby : y.testBit c
          · rw [hbx] at rx
            rw [hby] at ry
            have E1 : Hid (u = t.run wo (lst (c + 1) (an x y))) := by
              show _ = _
              rw [LS.out, ZB.out, hbx, hby, if_neg (by decide)]
              exact HU.out
            clear hbx hby LS ZB
            go_wp2_with fail
            go_roundg (s.n - (c + 1))
            case measure => omega
            case rel => exact ⟨c + 1, at'', U2, u, by omega, rfl, by go_num, rfl, E1.out, HA.out, HM.out, HR.out⟩
          · rw [hbx] at rx
            rw [hby] at ry
            have E1 : Hid (u = t.run wo (lst (c + 1) (an x y))) := by
              show _ = _
              rw [LS.out, ZB.out, hbx, hby, if_neg (by decide)]
              exact HU.out
            clear hbx hby LS ZB
            go_wp2_with fail
            go_roundg (s.n - (c + 1))
            case measure => omega
            case rel => exact ⟨c + 1, at'', U2, u, by omega, rfl, by go_num, rfl, E1.out, HA.out, HM.out, HR.out⟩
          · rw [hbx] at rx
            rw [hby] at ry
            have E1 : Hid (u.stp wo c = t.run wo (lst (c + 1) (an x y))) := by
              show _ = _
              rw [LS.out, ZB.out, hbx, hby, if_pos (by decide), Wy.run_snoc, ← HU.out]
            have TU := hid (rturn_ok HR.out.rer at'' u.m HA.out c hcn false)
            have M1 : Hid (wo u.m c < 2 ^ s.n) := wo_lt HM.out
            have hul : u.w.length ≤ 100000 := by
              rw [HU.out, HT.out, Wy.run_len]
              have := lst_len (an x y) c
              have h9 : (wyK s.l i x y s.n 0).w.length = 1 := rfl; omega
            have A1 := hid (add_get u.l (wo u.m c))
            unfold turnM AS.put at TU
            simp only [if_false, Bool.false_eq_true] at TU
            unfold Wy.stp at E1
            generalize wo u.m c = m' at *
            clear hbx hby LS ZB
            go_wp2_with fail
            refine TU.out.mono ?_
            rintro e w6 ⟨rfl, hg6⟩
            obtain ⟨U3, hr6⟩ := HR.out.node hg6
            have R6 := hid hr6
            have hw6 : W.heap.size ≤ w6.heap.size := hr6.st.size
            obtain ⟨wa, wc, rfl⟩ := hr6.way.slice
            clear TU hg6 hr6 c0
            go_wp2_with (at_builtin; refine wpList_num rfl _ _ rfl R6.out.way hul hw6 rfl rfl ?_; intro v' w7 ho hst hat)
            have R7 := hid (R6.out.append ho.out hst.out hat.out)
            go_roundg (s.n - (c + 1))
            case measure => omega
            case rel => exact ⟨c + 1, u.l.idxOf m', U3, ⟨m', add u.l m', u.w ++ [u.l.idxOf m']⟩, by omega, rfl, by go_num, rfl, E1.out, A1.out, M1.out, R7.out⟩
          · rw [hbx] at rx
            rw [hby] at ry
            have E1 : Hid (u = t.run wo (lst (c + 1) (an x y))) := by
              show _ = _
              rw [LS.out, ZB.out, hbx, hby, if_neg (by decide)]
              exact HU.out
            clear hbx hby LS ZB
            go_wp2_with fail
            go_roundg (s.n - (c + 1))
            case measure => omega
            case rel => exact ⟨c + 1, at'', U2, u, by omega, rfl, by go_num, rfl, E1.out, HA.out, HM.out, HR.out⟩
        · have hci : ¬ ((c : Int) < (s.n : Int)) := by omega
          have T1 : Hid (u = wyK s.l i x y s.n 1) := by show _ = _; rw [HU.out, HT.out, show c = s.n by omega]; rfl
          clear HU
          go_wp2_with fail
          go_roundg (2 - 1)
          case measure => omega
          case rel => exact ⟨1, at'', U2, u, by omega, rfl, by go_num, rfl, T1.out, HA.out, HM.out, HR.out⟩
    · by_cases hk1 : k = 1
      · subst hk1
        go_wp2_with fail
        go_loopg [8, 11, 13, 14, 15, 16, 17] s.n (fun gh ov av cv _ _ _ _ wr => ∃ (c at' : Nat) (U1 : Nat → Prop) (u : Wy), c ≤ s.n ∧ gh = s.n - c ∧ cv = .int .i64 (c : Int) ∧ av = .int .i64 (at' : Int) ∧ Hid (u = t.run wi (lst c (an y x))) ∧ Hid (u.l[at']? = some u.m) ∧ Hid (u.m < 2 ^ s.n) ∧ Hid (RW B W ub s.n U U1 u.l ov u.w wr))
        case atStart => exact ⟨0, at', U1, t, Nat.zero_le _, rfl, rfl, rfl, rfl, HA.out, HM.out, HR.out⟩
        case round =>
          clear HA HM HR
          rename World => wr
          obtain ⟨c, at'', U2, u, hc, rfl, rfl, rfl, HU, HA, HM, HR⟩ := hrel
          have c0 := HR.out.rer.c0
          by_cases hcn : c < s.n
          · have hci : (c : Int) < (s.n : Int) := by omega
            have hcj : (c : Int) ≤ 32 := by omega
            have rx := tmod_one x c
            have ry := tmod_one y c
            have LS := hid (show lst (c + 1) (an y x) = if (an y x).testBit c = true then lst c (an y x) ++ [c] else lst c (an y x) from rfl)
            have ZB := hid (an_bit y x c YM.out.2 XM.out.2)
            cases hbx : x.testBit c <;> cases hby : y.testBit c
            · rw [hbx] at rx
              rw [hby] at ry
              have E1 : Hid (u = t.run wi (lst (c + 1) (an y x))) := by
                show _ = _
                rw [LS.out, ZB.out, hbx, hby, if_neg (by decide)]
                exact HU.out
              clear hbx hby LS ZB
              go_wp2_with fail
              go_roundg (s.n - (c + 1))
              case measure => omega
              case rel => exact ⟨c + 1, at'', U2, u, by omega, rfl, by go_num, rfl, E1.out, HA.out, HM.out, HR.out⟩
            · rw [hbx] at rx
              rw [hby] at ry
              have E1 : Hid (u.stp wi c = t.run wi (lst (c + 1) (an y x))) := by
                show _ = _
                rw [LS.out, ZB.out, hbx, hby, if_pos (by decide), Wy.run_snoc, ← HU.out]
              have TU := hid (rturn_ok HR.out.rer at'' u.m HA.out c hcn true)
              have M1 : Hid (wi u.m c < 2 ^ s.n) := wi_lt HM.out hcn
              have hul : u.w.length ≤ 100000 := by
                rw [HU.out, HT.out, Wy.run_len]
                have := lst_len (an y x) c
                have h9 := wyK_len1 s.l i x y s.n; omega
              have A1 := hid (add_get u.l (wi u.m c))
              unfold turnM AS.put at TU
              simp only [if_true] at TU
              unfold Wy.stp at E1
              generalize wi u.m c = m' at *
              clear hbx hby LS ZB
              go_wp2_with fail
              refine TU.out.mono ?_
              rintro e w6 ⟨rfl, hg6⟩
              obtain ⟨U3, hr6⟩ := HR.out.node hg6
              have R6 := hid hr6
              have hw6 : W.heap.size ≤ w6.heap.size := hr6.st.size
              obtain ⟨wa, wc, rfl⟩ := hr6.way.slice
              clear TU hg6 hr6 c0
              go_wp2_with (at_builtin; refine wpList_num rfl _ _ rfl R6.out.way hul hw6 rfl rfl ?_; intro v' w7 ho hst hat)
              have R7 := hid (R6.out.append ho.out hst.out hat.out)
              go_roundg (s.n - (c + 1))
              case measure => omega
              case rel => exact ⟨c + 1, u.l.idxOf m', U3, ⟨m', add u.l m', u.w ++ [u.l.idxOf m']⟩, by omega, rfl, by go_num, rfl, E1.out, A1.out, M1.out, R7.out⟩
            · rw [hbx] at rx
              rw [hby] at ry
              have E1 : Hid (u = t.run wi (lst (c + 1) (an y x))) := by
                show _ = _
                rw [LS.out, ZB.out, hbx, hby, if_neg (by decide)]
                exact HU.out
              clear hbx hby LS ZB
              go_wp2_with fail
              go_roundg (s.n - (c + 1))
              case measure => omega
              case rel => exact ⟨c + 1, at'', U2, u, by omega, rfl, by go_num, rfl, E1.out, HA.out, HM.out, HR.out⟩
            · rw [hbx] at rx
              rw [hby] at ry
              have E1 : Hid (u = t.run wi (lst (c + 1) (an y x))) := by
                show _ = _
                rw [LS.out, ZB.out, hbx, hby, if_neg (by decide)]
                exact HU.out
              clear hbx hby LS ZB
              go_wp2_with fail
              go_roundg (s.n - (c + 1))
              case measure => omega
              case rel => exact ⟨c + 1, at'', U2, u, by omega, rfl, by go_num, rfl, E1.out, HA.out, HM.out, HR.out⟩
          · have hci : ¬ ((c : Int) < (s.n : Int)) := by omega
            have T1 : Hid (u = wyK s.l i x y s.n 2) := by show _ = _; rw [HU.out, HT.out, show c = s.n by omega]; rfl
            clear HU
            go_wp2_with fail
            go_roundg (2 - 2)
            case measure => omega
            case rel => exact ⟨2, at'', U2, u, by omega, rfl, by go_num, rfl, T1.out, HA.out, HM.out, HR.out⟩
      · obtain rfl : k = 2 := by omega
        have T2 : Hid (t = way s.l i x y) := by show _ = _; rw [HT.out, WE.out]
        clear HT
        go_wp2_with fail
        go_ret2
        have R := HR.out
        rw [T2.out] at R
        exact ⟨_, rfl, R.way, U1, R.rer, R.st, R.new⟩
end
end Go.Proofs.YtmiaepjlifceeaaDoor
