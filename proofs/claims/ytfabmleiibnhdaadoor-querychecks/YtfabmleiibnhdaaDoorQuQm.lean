/- The document's Check of a filter. -/
import Derived.Test.YtfabmleiibnhdaaDoorQuQh
import Derived.Deep.CutBlock
namespace Go.Proofs.YtfabmleiibnhdaaDoor.Qu
open Go.RowKit Go.Shelf Go.Maps
open Go.Proofs.YtfabmleiibnhdaaDoor.At (St bAl cell_blk blk_seen blk_free an wi pow32 bits_or32 bits_and32 bits_an32)
open Go.Proofs.YtfabmleiibnhdaaDoor.Sc (Cmp CmpRow)
theorem pow_u32' (j : Nat) (hj : j < 32) : (2 : Int) ^ j % 4294967296 = ((2 ^ j : Nat) : Int) := by
  have := At.bitI_in j hj
  unfold At.bitI at this
  rw [if_pos (by omega), Int.toNat_natCast] at this
  exact this
theorem infoFlaw : (Tryd.prog.info? 42).map (fun i => (i.zero, i.size, i.bytes)) = some (some (.agg #[.string ⟨#[]⟩, .int .i64 0]), 2, 24) := by kernel_rfl
theorem leaf_snoc (ls : List (List ByteArray × Nat)) (s : ByteArray) (k : Nat) : leafCells (ls ++ [([s], k)]) = leafCells ls ++ [.string s, .int .i64 (k : Int)] := by simp [leafCells, join_one]
/-- A row of flaws so far. -/
structure Fl (w1 : World) (v : Value) (ls : List (List ByteArray × Nat)) (w : World) : Prop where
  own : w.ownsRow w1.heap.size 42 2 v ls.length (leafCells ls)
  bel : Below w1.heap.size w1 w
/-- append of one flaw. -/
theorem wpList_flaw {ops : Array Oper} {rest : List Oper} {o : Oper} {a : Act} {Q : Exit → Act → World → Prop} (hgd : o.guard = none) (s x : Operand)
    (ho : o.op = .call { callee := .builtin .append, args := #[s, x], argTypes := #[38, 38] }) {w1 wc : World} {v : Value} {ls : List (List ByteArray × Nat)} {t : ByteArray} {k : Nat} (hF : Fl w1 v ls wc) (hl : ls.length ≤ 100)
    (hs : a.eval s = v) (hx : a.eval x = .slice (some ⟨wc.heap.size, 0, none⟩) 1 1)
    (h : ∀ v' w2, Hid (Fl w1 v' (ls ++ [([t], k)]) w2) → wpList Tryd.prog ops Q rest (a.put o.dst v') w2) :
    wpList Tryd.prog ops Q (o :: rest) a (wc.alloc (.cells #[.string t, .int .i64 (k : Int)] 42)) := by
  obtain ⟨i0, hi, hz0, hz1, hz2⟩ := info_parts infoFlaw
  have hb := bAl wc (.cells #[.string t, .int .i64 (k : Int)] 42)
  have ho2 : (wc.alloc (.cells #[.string t, .int .i64 (k : Int)] 42)).ownsRow w1.heap.size 42 2 v ls.length (leafCells ls) := World.ownsRow.alloc hF.own _
  have hh := heap_alloc_new wc (.cells #[.string t, .int .i64 (k : Int)] 42)
  have hB := hF.bel.size
  refine wpList_append_lies _ hgd s x 38 ho w1.heap.size 42 i0 (.agg #[.string ⟨#[]⟩, .int .i64 0]) 2 24 Tryd.underlying38 hi hz0 hz1 hz2 rfl (by decide) v ls.length (leafCells ls) hs ho2 ⟨wc.heap.size, 0, none⟩ 1 1 [.string t, .int .i64 (k : Int)] hx rfl (fun j u hu => by
    rw [add_at]
    exact cell_blk hh (by simpa using hu)) (by intro u hu; simp at hu; rcases hu with rfl | rfl <;> rfl) (by decide) (by unfold maxLen; omega) (by omega) (by simp; omega) (wc.heap.size + 1) (by simp) ?_
  intro g' cap w2 ow hg hat hlt
  have st := (St.of_below hb).trans (St.of_grown (S := fun x => v.ownBlock = some x) hg fun k e => e) fun _ _ q => q
  refine h _ w2 ⟨?_, hF.bel.trans (st.below (B := w1.heap.size) (fun y hy => (World.ownsRow.lt hF.own y hy).1) hB)⟩
  rw [leaf_snoc, List.length_append]
  exact ow
theorem fl_none (w1 : World) : Fl w1 (.slice (some ⟨w1.heap.size, 0, none⟩) 0 0) [] (w1.alloc (.cells #[] 42)) :=
  ⟨World.ownsRow_lit (base := w1.heap.size) (e := 42) (size := 2) w1 #[] 0 (Nat.le_refl _) (Nat.zero_le _) rfl, bAl _ _⟩
theorem qL_t (s : ByteArray) (k : Nat) : qL true s k = [] := rfl
theorem qL_f (s : ByteArray) (k : Nat) : qL false s k = [([s], k)] := rfl
theorem rolN_next {cs : List Cmp} {k : Nat} {x : Cmp} (h : cs[k]? = some x) : rolN cs (k + 1) = if x.rb == true then wi (rolN cs k) k else rolN cs k := by simp only [rolN, h]
theorem Fl.later {w1 w w' : World} {v : Value} {ls : List (List ByteArray × Nat)} (h : Fl w1 v ls w) (hb : Below w.heap.size w w') : Fl w1 v ls w' :=
  ⟨own_kept h.own (St.of_below (S := fun _ => False) hb) fun _ _ q => q, h.bel.trans (hb.mono h.bel.size)⟩
set_option maxHeartbeats 6400000 in
set_option maxRecDepth 100000 in
theorem rcheck_any (w : World) (va vb : Value) (hvb : ∃ a l c, vb = .slice a l c) (cs : List Cmp) (hC : CmpRow w va cs) (hl : cs.length ≤ 1000) (a b c : Nat) (ha : a < 4294967296) (hb : b < 4294967296) (hc : c < 4294967296) :
    Calls Tryd.prog 8 #[.agg #[va, vb], .agg #[.int .u32 (a : Int), .int .u32 (b : Int), .int .u32 (c : Int)]] w fun e w' => ∃ lv, e = .returned lv ∧ w'.ownsRow w.heap.size 42 2 lv (qcheckL (rolA cs) a b c).length (leafCells (qcheckL (rolA cs) a b c)) ∧ Below w.heap.size w w' := by
  obtain ⟨w1, hw1⟩ : ∃ w1, w1 = (w.alloc (.cells #[va, vb] 25)).alloc (.cells #[.int .u32 (a : Int), .int .u32 (b : Int), .int .u32 (c : Int)] 29) := ⟨_, rfl⟩
  obtain ⟨b1, r1, p1⟩ := two_blk w #[va, vb] #[.int .u32 (a : Int), .int .u32 (b : Int), .int .u32 (c : Int)] 25 29
  rw [← hw1] at b1 r1 p1
  have HC := hid (hC.later b1)
  have B1 := hid b1
  have P1 := hid p1
  have x0 : w1.cell? ⟨w.heap.size, 0, none⟩ = some va := cell_blk r1 rfl
  have HW1 := hid hw1
  have N2 := hid (fl_none w1)
  have RA : Hid (rolA cs = rolN cs (min cs.length 32)) := hid rfl
  obtain ⟨sa, sc, rfl, hcap, -⟩ := hC
  obtain ⟨ta, tl, tc, rfl⟩ := hvb
  have hli : (cs.length : Int) ≤ 1000 := by omega
  clear hw1 b1 r1 p1
  go_enter Tryd.func8, Tryd.ntmps8
  go_upto_region 1 with fail
  rw [← HW1.out]
  go_upto_block 0 with fail
  go_cut [5, 6] (fun m _ wx => m = .int .u32 ((rolA cs : Nat) : Int) ∧ wx = w1)
  case first =>
    go_wp2_with fail
    go_loopg [5, 6] 32 (fun gh m i wr => ∃ k : Nat, k ≤ min cs.length 32 ∧ gh = 32 - k ∧ i = .int .i64 (k : Int) ∧ m = .int .u32 ((rolN cs k : Nat) : Int) ∧ wr = w1)
    case atStart => exact ⟨0, Nat.zero_le _, rfl, rfl, by simp [rolN], rfl⟩
    case round =>
      obtain ⟨k, hk, rfl, rfl, rfl, hwr⟩ := hrel
      obtain rfl := hwr.symm
      by_cases h1 : k < cs.length
      · have h1i : (k : Int) < (cs.length : Int) := by omega
        by_cases h2 : k < 32
        · have h2i : (k : Int) < 32 := by omega
          obtain ⟨x, hx⟩ := at_lt cs k h1
          obtain ⟨b', o, rfl, d2⟩ : ∃ b o, sa = some ⟨b, o, none⟩ ∧ w1.cell? ⟨b, o + k * 7 + 2, none⟩ = some (.bool x.rb) := by
            obtain ⟨a', c', hv, -, hl2⟩ := HC.out
            obtain ⟨rfl, rfl⟩ : sa = a' ∧ sc = c' := by simpa using hv
            rcases hl2 with q | ⟨b, o, q1, q2⟩
            · rw [q] at h1; simp at h1
            · exact ⟨b, o, q1, (q2 k x hx).2.2.1⟩
          have RN := hid (rolN_next hx)
          have hm := rolN_lt cs k (by omega)
          have pw := pow_u32' k h2
          have q1 := bits_or32 (rolN cs k) (2 ^ k) hm (pow32 h2)
          generalize rolN cs k = m at *
          clear hx hm
          cases hr : x.rb with
          | true =>
            have e1 : Hid (rolN cs (k + 1) = m ||| 2 ^ k) := by show _ = _; rw [RN.out, if_pos (by rw [hr]; rfl)]; rfl
            rw [hr] at d2
            clear RN hr
            generalize (2 ^ k : Nat) = q at *
            go_wp2_with fail
            go_roundg (32 - (k + 1))
            case measure => omega
            case rel => exact ⟨k + 1, by omega, rfl, by go_num, by rw [e1.out], rfl⟩
          | false =>
            have e1 : Hid (rolN cs (k + 1) = m) := by show _ = _; rw [RN.out, if_neg (by rw [hr]; decide)]
            rw [hr] at d2
            clear RN hr pw q1
            go_wp2_with fail
            go_roundg (32 - (k + 1))
            case measure => omega
            case rel => exact ⟨k + 1, by omega, rfl, by go_num, by rw [e1.out], rfl⟩
        · have h2i : ¬ ((k : Int) < 32) := by omega
          have e : Hid (rolN cs k = rolA cs) := by show _ = _; rw [RA.out]; congr 1; omega
          go_wp2_with fail
          go_meet
          exact ⟨by rw [e.out], rfl⟩
      · have h1i : ¬ ((k : Int) < (cs.length : Int)) := by omega
        have e : Hid (rolN cs k = rolA cs) := by show _ = _; rw [RA.out]; congr 1; omega
        go_wp2_with fail
        go_meet
        exact ⟨by rw [e.out], rfl⟩
  case rest =>
    obtain ⟨rfl, hwx⟩ := hcut
    rw [hwx]
    clear hwx x0 HC
    have hr := rolA_lt cs
    obtain ⟨r, HRR⟩ : ∃ r, Hid (rolA cs = r) := ⟨_, hid rfl⟩
    rw [HRR.out] at hr ⊢
    have k0 : w1.cell? ⟨w.heap.size + 1, 0, none⟩ = some (.int .u32 (a : Int)) := cell_blk P1.out rfl
    have n1 := bits_an32 a r ha hr
    have n2 := bits_an32 b r hb hr
    have n3 := bits_an32 c r hc hr
    have n4 := bits_and32 a b ha hb
    have n5 := bits_an32 c a hc ha
    clear k0
    obtain ⟨w2, hw2⟩ : ∃ w2, w2 = w1.alloc (.cells #[] 42) := ⟨_, rfl⟩
    rw [← hw2] at N2
    have HW2 := hid hw2
    clear hw2
    have KC : Hid (∀ {v : Value} {ls : List (List ByteArray × Nat)} {wx : World}, Fl w1 v ls wx → wx.cell? ⟨w.heap.size + 1, 0, none⟩ = some (.int .u32 (a : Int)) ∧ wx.cell? ⟨w.heap.size + 1, 1, none⟩ = some (.int .u32 (b : Int)) ∧ wx.cell? ⟨w.heap.size + 1, 2, none⟩ = some (.int .u32 (c : Int))) := fun h => by
      have q := blk_seen h.bel (Nat.le_refl _) P1.out
      exact ⟨cell_blk q rfl, cell_blk q rfl, cell_blk q rfl⟩
    go_upto_region 8 with fail
    rw [← HW2.out]
    clear HW2
    obtain ⟨k0, k1, k2⟩ := KC.out N2.out
    go_upto_if 34 with fail
    go_cut [7] (fun v wx => (∃ va n vc, v = .slice va n vc) ∧ Hid (Fl w1 v (qL (decide (an a r = 0)) bWith 1) wx))
    case first =>
      by_cases hz : an a r = 0
      · have e : Hid (qL (decide (an a r = 0)) bWith 1 = ([] : List (List ByteArray × Nat))) := by show _ = _; rw [decide_eq_true hz, qL_t]
        have hz2 : (((an a r : Nat) : Int) == 0) = true := by rw [hz]; rfl
        clear hz
        generalize (an a r : Nat) = zz at *
        go_wp2_with fail
        go_meet
        exact ⟨⟨_, _, _, rfl⟩, by rw [e.out]; exact N2.out⟩
      · have e : Hid (qL (decide (an a r = 0)) bWith 1 = ([] : List (List ByteArray × Nat)) ++ [([bWith], 1)]) := by show _ = _; rw [decide_eq_false hz, qL_f]; rfl
        have hz2 : (((an a r : Nat) : Int) == 0) = false := by simp; omega
        clear hz
        generalize (an a r : Nat) = zz at *
        have hln : (([] : List (List ByteArray × Nat))).length ≤ 100 := by
          simp
        go_wp2_with (at_builtin; refine wpList_flaw (t := bWith) (k := 1) rfl _ _ rfl N2.out hln rfl rfl ?_; intro v4 w4 H4)
        obtain ⟨va4, vc4, hv4⟩ := own_slice H4.out.own
        go_wp2_with fail
        go_meet
        exact ⟨⟨_, _, _, hv4⟩, by rw [e.out]; exact H4.out⟩
    case rest =>
      rename World => wx0
      obtain ⟨⟨va0, vn0, vc0, rfl⟩, F0⟩ := hcut
      clear N2 k0 k1 k2
      obtain ⟨k0, k1, k2⟩ := KC.out F0.out
      go_upto_if 43 with fail
      go_cut [7] (fun v wx => (∃ va n vc, v = .slice va n vc) ∧ Hid (Fl w1 v (qL (decide (an a r = 0)) bWith 1 ++ qL (decide (an b r = 0)) bWithout 1) wx))
      case first =>
        by_cases hz : an b r = 0
        · have e : Hid (qL (decide (an a r = 0)) bWith 1 ++ qL (decide (an b r = 0)) bWithout 1 = qL (decide (an a r = 0)) bWith 1) := by show _ = _; rw [decide_eq_true hz, qL_t]; simp
          have hz2 : (((an b r : Nat) : Int) == 0) = true := by rw [hz]; rfl
          clear hz
          generalize (an b r : Nat) = zz at *
          go_wp2_with fail
          go_meet
          exact ⟨⟨_, _, _, rfl⟩, by rw [e.out]; exact F0.out⟩
        · have e : Hid (qL (decide (an a r = 0)) bWith 1 ++ qL (decide (an b r = 0)) bWithout 1 = qL (decide (an a r = 0)) bWith 1 ++ [([bWithout], 1)]) := by show _ = _; rw [decide_eq_false hz, qL_f]
          have hz2 : (((an b r : Nat) : Int) == 0) = false := by simp; omega
          clear hz
          generalize (an b r : Nat) = zz at *
          have hln : (qL (decide (an a r = 0)) bWith 1).length ≤ 100 := by
            have := qL_len (decide (an a r = 0)) bWith 1; omega
          go_wp2_with (at_builtin; refine wpList_flaw (t := bWithout) (k := 1) rfl _ _ rfl F0.out hln rfl rfl ?_; intro v4 w4 H4)
          obtain ⟨va4, vc4, hv4⟩ := own_slice H4.out.own
          go_wp2_with fail
          go_meet
          exact ⟨⟨_, _, _, hv4⟩, by rw [e.out]; exact H4.out⟩
      case rest =>
        rename World => wx1
        obtain ⟨⟨va1, vn1, vc1, rfl⟩, F1⟩ := hcut
        clear F0 k0 k1 k2
        obtain ⟨k0, k1, k2⟩ := KC.out F1.out
        go_upto_if 52 with fail
        go_cut [7] (fun v wx => (∃ va n vc, v = .slice va n vc) ∧ Hid (Fl w1 v (qL (decide (an a r = 0)) bWith 1 ++ qL (decide (an b r = 0)) bWithout 1 ++ qL (decide (an c r = 0)) bChanged 1) wx))
        case first =>
          by_cases hz : an c r = 0
          · have e : Hid (qL (decide (an a r = 0)) bWith 1 ++ qL (decide (an b r = 0)) bWithout 1 ++ qL (decide (an c r = 0)) bChanged 1 = qL (decide (an a r = 0)) bWith 1 ++ qL (decide (an b r = 0)) bWithout 1) := by show _ = _; rw [decide_eq_true hz, qL_t]; simp
            have hz2 : (((an c r : Nat) : Int) == 0) = true := by rw [hz]; rfl
            clear hz
            generalize (an c r : Nat) = zz at *
            go_wp2_with fail
            go_meet
            exact ⟨⟨_, _, _, rfl⟩, by rw [e.out]; exact F1.out⟩
          · have e : Hid (qL (decide (an a r = 0)) bWith 1 ++ qL (decide (an b r = 0)) bWithout 1 ++ qL (decide (an c r = 0)) bChanged 1 = qL (decide (an a r = 0)) bWith 1 ++ qL (decide (an b r = 0)) bWithout 1 ++ [([bChanged], 1)]) := by show _ = _; rw [decide_eq_false hz, qL_f]
            have hz2 : (((an c r : Nat) : Int) == 0) = false := by simp; omega
            clear hz
            generalize (an c r : Nat) = zz at *
            have hln : (qL (decide (an a r = 0)) bWith 1 ++ qL (decide (an b r = 0)) bWithout 1).length ≤ 100 := by
              simp only [List.length_append]; have := qL_len (decide (an a r = 0)) bWith 1; have := qL_len (decide (an b r = 0)) bWithout 1; omega
            go_wp2_with (at_builtin; refine wpList_flaw (t := bChanged) (k := 1) rfl _ _ rfl F1.out hln rfl rfl ?_; intro v4 w4 H4)
            obtain ⟨va4, vc4, hv4⟩ := own_slice H4.out.own
            go_wp2_with fail
            go_meet
            exact ⟨⟨_, _, _, hv4⟩, by rw [e.out]; exact H4.out⟩
        case rest =>
          rename World => wx2
          obtain ⟨⟨va2, vn2, vc2, rfl⟩, F2⟩ := hcut
          clear F1 k0 k1 k2
          obtain ⟨k0, k1, k2⟩ := KC.out F2.out
          go_upto_if 62 with fail
          go_cut [7] (fun v wx => (∃ va n vc, v = .slice va n vc) ∧ Hid (Fl w1 v (qL (decide (an a r = 0)) bWith 1 ++ qL (decide (an b r = 0)) bWithout 1 ++ qL (decide (an c r = 0)) bChanged 1 ++ qL (decide (a &&& b = 0)) bWithout 9) wx))
          case first =>
            by_cases hz : a &&& b = 0
            · have e : Hid (qL (decide (an a r = 0)) bWith 1 ++ qL (decide (an b r = 0)) bWithout 1 ++ qL (decide (an c r = 0)) bChanged 1 ++ qL (decide (a &&& b = 0)) bWithout 9 = qL (decide (an a r = 0)) bWith 1 ++ qL (decide (an b r = 0)) bWithout 1 ++ qL (decide (an c r = 0)) bChanged 1) := by show _ = _; rw [decide_eq_true hz, qL_t]; simp
              have hz2 : (((a &&& b : Nat) : Int) == 0) = true := by rw [hz]; rfl
              clear hz
              generalize (a &&& b : Nat) = zz at *
              go_wp2_with fail
              go_meet
              exact ⟨⟨_, _, _, rfl⟩, by rw [e.out]; exact F2.out⟩
            · have e : Hid (qL (decide (an a r = 0)) bWith 1 ++ qL (decide (an b r = 0)) bWithout 1 ++ qL (decide (an c r = 0)) bChanged 1 ++ qL (decide (a &&& b = 0)) bWithout 9 = qL (decide (an a r = 0)) bWith 1 ++ qL (decide (an b r = 0)) bWithout 1 ++ qL (decide (an c r = 0)) bChanged 1 ++ [([bWithout], 9)]) := by show _ = _; rw [decide_eq_false hz, qL_f]
              have hz2 : (((a &&& b : Nat) : Int) == 0) = false := by simp; omega
              clear hz
              generalize (a &&& b : Nat) = zz at *
              have hln : (qL (decide (an a r = 0)) bWith 1 ++ qL (decide (an b r = 0)) bWithout 1 ++ qL (decide (an c r = 0)) bChanged 1).length ≤ 100 := by
                simp only [List.length_append]; have := qL_len (decide (an a r = 0)) bWith 1; have := qL_len (decide (an b r = 0)) bWithout 1; have := qL_len (decide (an c r = 0)) bChanged 1; omega
              go_wp2_with (at_builtin; refine wpList_flaw (t := bWithout) (k := 9) rfl _ _ rfl F2.out hln rfl rfl ?_; intro v4 w4 H4)
              obtain ⟨va4, vc4, hv4⟩ := own_slice H4.out.own
              go_wp2_with fail
              go_meet
              exact ⟨⟨_, _, _, hv4⟩, by rw [e.out]; exact H4.out⟩
          case rest =>
            rename World => wx3
            obtain ⟨⟨va3, vn3, vc3, rfl⟩, F3⟩ := hcut
            clear F2 k0 k1 k2
            obtain ⟨k0, k1, k2⟩ := KC.out F3.out
            go_upto_if 72 with fail
            go_cut [7] (fun v wx => (∃ va n vc, v = .slice va n vc) ∧ Hid (Fl w1 v (qL (decide (an a r = 0)) bWith 1 ++ qL (decide (an b r = 0)) bWithout 1 ++ qL (decide (an c r = 0)) bChanged 1 ++ qL (decide (a &&& b = 0)) bWithout 9 ++ qL (decide (an c a = 0)) bChanged 7) wx))
            case first =>
              by_cases hz : an c a = 0
              · have e : Hid (qL (decide (an a r = 0)) bWith 1 ++ qL (decide (an b r = 0)) bWithout 1 ++ qL (decide (an c r = 0)) bChanged 1 ++ qL (decide (a &&& b = 0)) bWithout 9 ++ qL (decide (an c a = 0)) bChanged 7 = qL (decide (an a r = 0)) bWith 1 ++ qL (decide (an b r = 0)) bWithout 1 ++ qL (decide (an c r = 0)) bChanged 1 ++ qL (decide (a &&& b = 0)) bWithout 9) := by show _ = _; rw [decide_eq_true hz, qL_t]; simp
                have hz2 : (((an c a : Nat) : Int) == 0) = true := by rw [hz]; rfl
                clear hz
                generalize (an c a : Nat) = zz at *
                go_wp2_with fail
                go_meet
                exact ⟨⟨_, _, _, rfl⟩, by rw [e.out]; exact F3.out⟩
              · have e : Hid (qL (decide (an a r = 0)) bWith 1 ++ qL (decide (an b r = 0)) bWithout 1 ++ qL (decide (an c r = 0)) bChanged 1 ++ qL (decide (a &&& b = 0)) bWithout 9 ++ qL (decide (an c a = 0)) bChanged 7 = qL (decide (an a r = 0)) bWith 1 ++ qL (decide (an b r = 0)) bWithout 1 ++ qL (decide (an c r = 0)) bChanged 1 ++ qL (decide (a &&& b = 0)) bWithout 9 ++ [([bChanged], 7)]) := by show _ = _; rw [decide_eq_false hz, qL_f]
                have hz2 : (((an c a : Nat) : Int) == 0) = false := by simp; omega
                clear hz
                generalize (an c a : Nat) = zz at *
                have hln : (qL (decide (an a r = 0)) bWith 1 ++ qL (decide (an b r = 0)) bWithout 1 ++ qL (decide (an c r = 0)) bChanged 1 ++ qL (decide (a &&& b = 0)) bWithout 9).length ≤ 100 := by
                  simp only [List.length_append]; have := qL_len (decide (an a r = 0)) bWith 1; have := qL_len (decide (an b r = 0)) bWithout 1; have := qL_len (decide (an c r = 0)) bChanged 1; have := qL_len (decide (a &&& b = 0)) bWithout 9; omega
                go_wp2_with (at_builtin; refine wpList_flaw (t := bChanged) (k := 7) rfl _ _ rfl F3.out hln rfl rfl ?_; intro v4 w4 H4)
                obtain ⟨va4, vc4, hv4⟩ := own_slice H4.out.own
                go_wp2_with fail
                go_meet
                exact ⟨⟨_, _, _, hv4⟩, by rw [e.out]; exact H4.out⟩
            case rest =>
              rename World => wx4
              obtain ⟨⟨va4, vn4, vc4, rfl⟩, F4⟩ := hcut
              clear F3 k0 k1 k2
              obtain ⟨k0, k1, k2⟩ := KC.out F4.out
              have B9 := hid (B1.out.trans (F4.out.bel.mono B1.out.size))
              have O9 : Hid (wx4.ownsRow w.heap.size 42 2 (.slice va4 vn4 vc4) (qcheckL r a b c).length (leafCells (qcheckL r a b c))) := by
                have q := F4.out.own
                exact ⟨q.1, q.2.elim .inl fun ⟨g, cap, cur, h1, h2, h3⟩ => .inr ⟨g, cap, cur, h1, Nat.le_trans B1.out.size h2, h3⟩⟩
              clear k0 k1 k2
              go_wp2_with fail
              go_ret
              exact ⟨_, rfl, by rw [HRR.out]; exact O9.out, B9.out⟩
end Go.Proofs.YtfabmleiibnhdaaDoor.Qu
