/- Contract of the reference's Take: flags, as many as there may be. -/
import Derived.Test.YthngdaeiopgigaaDoorQf
import Derived.Test.YthngdaeiopgigaaDoorMd
import Derived.Laws.OwnMore
import Derived.Deep.RegionHeld3
namespace Go.Proofs.YthngdaeiopgigaaDoor
open Go.ChangeShapes Go.WideShapes Go.ChangeAt Go.RowKit
theorem unpk_succ (l : List UInt8) (i : Nat) : unpk l (i + 1) = unpk l i ++ [(l.getD (i / 8) 0).toNat / 2 ^ (i % 8) % 2 == 1] := by
  simp [unpk, List.range_succ]
theorem own_bools {w : World} {B : Nat} {ga : Option Addr} {gc : Nat} {fl : List Bool} (h : w.ownsRow B 4 1 (.slice ga fl.length gc) fl.length (fl.map Value.bool)) : Bools w (.slice ga fl.length gc) fl := by
  rcases h.2 with ⟨h1, h2⟩ | ⟨g, cap, cur, h1, _, hg, _, _, _, ht⟩
  · exact ⟨_, _, rfl, .inl (List.eq_nil_of_length_eq_zero h2)⟩
  · simp only [Value.slice.injEq, true_and] at h1
    obtain ⟨rfl, rfl⟩ := h1
    refine ⟨_, _, rfl, .inr ⟨g, 0, rfl, fun j hj => ?_⟩⟩
    have := h.cells (g := g) rfl j (.bool (fl.getD j false)) (by simp [hj, List.getD_eq_getElem?_getD])
    rwa [add_plain] at this
/-- How it stands in the loop. -/
structure FInv (w W : World) (l : List UInt8) (i : Nat) (ga : Option Addr) (gc : Nat) (y : List Bool) (wr : World) : Prop where
  own : wr.ownsRow (w.heap.size + 3) 4 1 (.slice ga y.length gc) y.length (y.map Value.bool)
  bel : Below (w.heap.size + 3) W wr
  is : y = unpk l i
theorem FInv.len {w W : World} {l : List UInt8} {i : Nat} {ga : Option Addr} {gc : Nat} {y : List Bool} {wr : World} (h : FInv w W l i ga gc y wr) : y.length = i := by rw [h.is]; simp [unpk]
/-- The four boxes that Take makes for flags. -/
def boxes (w : World) (n : Nat) (text : ByteArray) (fv : Value) : World := (((w.alloc (.cells #[.int .i64 6, .int .i64 n, .string text, fv] 30)).alloc (.cells #[.int .i64 0, .int .i64 0, .string ⟨#[]⟩, .slice none 0 0] 30)).alloc (.cells #[.int .i64 6, .int .i64 0, .string ⟨#[]⟩, .slice none 0 0] 30)).alloc (.cells #[] 4)
theorem boxes_below (w : World) (n : Nat) (text : ByteArray) (fv : Value) : Below w.heap.size w (boxes w n text fv) := (three_boxes w _ _ _).alloc (by simp; omega) _
theorem boxes_size (w : World) (n : Nat) (text : ByteArray) (fv : Value) : (boxes w n text fv).heap.size = w.heap.size + 4 := by simp [boxes]
theorem boxes_own (w : World) (n : Nat) (text : ByteArray) (fv : Value) : (boxes w n text fv).ownsRow (w.heap.size + 3) 4 1 (.slice (some ⟨w.heap.size + 3, 0, none⟩) 0 0) 0 [] := by
  have e : ((((w.alloc (.cells #[.int .i64 6, .int .i64 n, .string text, fv] 30)).alloc (.cells #[.int .i64 0, .int .i64 0, .string ⟨#[]⟩, .slice none 0 0] 30)).alloc (.cells #[.int .i64 6, .int .i64 0, .string ⟨#[]⟩, .slice none 0 0] 30))).heap.size = w.heap.size + 3 := by simp
  have := World.ownsRow_lit (base := w.heap.size + 3) (e := 4) (size := 1) ((((w.alloc (.cells #[.int .i64 6, .int .i64 n, .string text, fv] 30)).alloc (.cells #[.int .i64 0, .int .i64 0, .string ⟨#[]⟩, .slice none 0 0] 30)).alloc (.cells #[.int .i64 6, .int .i64 0, .string ⟨#[]⟩, .slice none 0 0] 30))) #[] 0 (by rw [e]; omega) (by simp [maxLen]) (by simp)
  rw [e] at this
  exact this
theorem boxes_blk (w : World) (n : Nat) (text : ByteArray) (fv : Value) :
    (boxes w n text fv).heap[w.heap.size]? = some (.cells #[.int .i64 6, .int .i64 n, .string text, fv] 30 (0, 0)) ∧
    (boxes w n text fv).heap[w.heap.size + 1]? = some (.cells #[.int .i64 0, .int .i64 0, .string ⟨#[]⟩, .slice none 0 0] 30 (0, 0)) ∧
    (boxes w n text fv).heap[w.heap.size + 2]? = some (.cells #[.int .i64 6, .int .i64 0, .string ⟨#[]⟩, .slice none 0 0] 30 (0, 0)) := by
  refine ⟨?_, ?_, ?_⟩
  · unfold boxes
    rw [heap_alloc_old _ _ (by simp <;> omega), heap_alloc_old _ _ (by simp <;> omega), heap_alloc_old _ _ (by simp)]
    exact blk_new _ _
  · unfold boxes
    rw [heap_alloc_old _ _ (by simp <;> omega), heap_alloc_old _ _ (by simp)]
    have := blk_new (w.alloc (.cells #[.int .i64 6, .int .i64 n, .string text, fv] 30)) (.cells #[.int .i64 0, .int .i64 0, .string ⟨#[]⟩, .slice none 0 0] 30)
    simpa using this
  · unfold boxes
    rw [heap_alloc_old _ _ (by simp)]
    have := blk_new ((w.alloc (.cells #[.int .i64 6, .int .i64 n, .string text, fv] 30)).alloc (.cells #[.int .i64 0, .int .i64 0, .string ⟨#[]⟩, .slice none 0 0] 30)) (.cells #[.int .i64 6, .int .i64 0, .string ⟨#[]⟩, .slice none 0 0] 30)
    simpa using this
theorem bool_one (l : List Bool) : ∀ u ∈ l.map Value.bool, u.oneCell' = true := by
  intro u hu
  obtain ⟨c, _, rfl⟩ := List.mem_map.1 hu
  rfl
theorem FInv.next {w W : World} {l : List UInt8} {i : Nat} {ga : Option Addr} {gc : Nat} {y : List Bool} {wr w1 : World} {v : Value} {b : Bool} (h : FInv w W l i ga gc y wr) (hb : b = ((l.getD (i / 8) 0).toNat / 2 ^ (i % 8) % 2 == 1))
    (hown : w1.ownsRow (w.heap.size + 3) 4 1 v (y.length + 1) (y.map Value.bool ++ [.bool b])) (hg : (wr.alloc (.cells #[.bool b] 4)).grownBy w1 (Value.slice ga y.length gc).ownBlock) (hs : w.heap.size + 3 ≤ wr.heap.size) :
    ∃ g2 c2, v = .slice g2 (y ++ [b]).length c2 ∧ FInv w W l (i + 1) g2 c2 (y ++ [b]) w1 := by
  obtain ⟨g2, c2, rfl⟩ := own_slice hown
  refine ⟨g2, c2, by simp, ?_, ?_, ?_⟩
  · have e : (y ++ [b]).length = y.length + 1 := by simp
    rw [e, List.map_append]; exact hown
  · exact (h.bel.alloc hs _).grown hg (by simp; omega) (fun k hk => (ownBlock_of h.own hk).1)
  · rw [unpk_succ, ← hb, h.is]
theorem bel_drew {wr W : World} (h : Below wr.heap.size wr W) : Below wr.heap.size wr W.drew := ⟨h.os, h.tape, h.output, h.size, h.block⟩
theorem bel_rebase {w a b : World} (h1 : Below w.heap.size w a) (h2 : Below a.heap.size a b) : Below w.heap.size w b := h1.trans (h2.mono h1.size)
theorem rflags_is (y : List Bool) (v : Value) (W : World) (hl : y.length ≤ 100000) (hB : Bools W v y) (T : ByteArray) (hT : T.data.toList = packL y) :
    Calls Tryd.prog 42 #[v] W fun e w' => e = .returned (.string T) ∧ Below W.heap.size W w' := by
  refine (rflagsW_any y v W hl hB).mono ?_
  rintro e w' ⟨⟨s, rfl, hs⟩, hb⟩
  have : s = T := by rw [ba_of s _ hs, ba_of T _ hT]
  rw [this]; exact ⟨rfl, hb⟩
/-- Flags that leave something over are written otherwise. -/
theorem lo_other {l : List UInt8} {n : Nat} (h : lo l n = true) : packL (unpk l n) ≠ l.take ((n + 7) / 8) := by
  intro e
  have h1 := lo_packL (unpk l n) (l.drop ((n + 7) / 8))
  rw [e, List.take_append_drop, unpk_length, h] at h1
  cases h1
theorem own_below {w w' : World} {B n : Nat} {e : TypeId} {v : Value} {xs : List Value} (h : w.ownsRow B e 1 v n xs) (hb : Below w.heap.size w w') : w'.ownsRow B e 1 v n xs := by
  refine ⟨h.1, ?_⟩
  rcases h.2 with h1 | ⟨g, cap, cur, h1, h2, h3, h4⟩
  · exact .inl h1
  · exact .inr ⟨g, cap, cur, h1, h2, (hb.block g (lt_of_block h3)).trans h3, h4⟩
theorem own_put {w : World} {b j B n : Nat} {e : TypeId} {v : Value} {xs : List Value} (h : w.ownsRow B e 1 v n xs) (hb : b < B) (u : Value) : (w.setCell ⟨b, j, none⟩ u).ownsRow B e 1 v n xs :=
  ownsRow_setCell_other h (a := ⟨b, j, none⟩) (fun hk => by have := (ownBlock_of h hk).1; simp at this; omega) u
theorem put4 {w w5 : World} {ga : Option Addr} {gc : Nat} {y : List Bool} (h : w5.ownsRow (w.heap.size + 3) 4 1 (.slice ga y.length gc) y.length (y.map Value.bool)) (hb : Below w.heap.size w w5) (a b c d : Value) :
    Bools ((((w5.setCell ⟨w.heap.size + 1, 0, none⟩ a).setCell ⟨w.heap.size + 1, 1, none⟩ b).setCell ⟨w.heap.size + 1, 2, none⟩ c).setCell ⟨w.heap.size + 1, 3, none⟩ d) (.slice ga y.length gc) y ∧
    Below w.heap.size w ((((w5.setCell ⟨w.heap.size + 1, 0, none⟩ a).setCell ⟨w.heap.size + 1, 1, none⟩ b).setCell ⟨w.heap.size + 1, 2, none⟩ c).setCell ⟨w.heap.size + 1, 3, none⟩ d) :=
  ⟨own_bools (own_put (own_put (own_put (own_put h (by omega) a) (by omega) b) (by omega) c) (by omega) d), (((hb.setCell (by simp) a).setCell (by simp) b).setCell (by simp) c).setCell (by simp) d⟩
set_option maxHeartbeats 1600000 in
set_option maxRecDepth 100000 in
theorem take6_in (s : ByteArray) (n : Nat) (text : ByteArray) (fl : List Bool) (fa : Option Addr) (fc : Nat) (aF : Addr) (w : World) (hn : n ≤ 65536) (hk : (n + 7) / 8 ≤ s.size) :
    Calls Tryd.prog 17 #[.string s, .agg #[.int .i64 6, .int .i64 n, .string text, .slice fa fl.length fc]] w fun e w' => Took w (RS.get aF ⟨6, n, text, fl⟩ ⟨s.data.toList, none⟩) e w' := by
  rw [get6]
  obtain ⟨i0, hi, hz0, hz1, hz2⟩ := info_parts Tryd.info4
  have hk1 : ¬ ((s.size : Int) < ((n : Int) + 7) / 8) := by omega
  have hn1 : (n : Int) ≤ 65536 := by omega
  go_enter Tryd.func17, Tryd.ntmps17
  go_wp2_with fail
  obtain ⟨W, hW⟩ : ∃ W, W = boxes w n text (.slice fa fl.length fc) := ⟨_, rfl⟩
  have hW2 := hW
  unfold boxes at hW2
  rw [← hW2]
  have BW : Hid (Below w.heap.size w W) := by rw [hW]; exact boxes_below _ _ _ _
  have SW : Hid (W.heap.size = w.heap.size + 4) := by rw [hW]; exact boxes_size _ _ _ _
  have OW : Hid (FInv w W s.data.toList 0 (some ⟨w.heap.size + 3, 0, none⟩) 0 [] W) := ⟨by rw [hW]; exact boxes_own _ _ _ _, Below.refl _ _, rfl⟩
  obtain ⟨k0, k1, k2⟩ := boxes_blk w n text (.slice fa fl.length fc)
  rw [← hW] at k0 k1 k2
  have K0 := hid k0
  have K1 := hid k1
  have K2 := hid k2
  clear hW hW2 k0 k1 k2
  go_loopw [15, 16] (fun v x wr => ∃ (i : Nat) (ga : Option Addr) (gc : Nat) (y : List Bool), x = .int .i64 i ∧ i ≤ n ∧ v = .slice ga y.length gc ∧ FInv w W s.data.toList i ga gc y wr) (fun _ x _ => n - (intOf x).toNat)
  case atStart => exact ⟨0, _, 0, [], rfl, Nat.zero_le _, rfl, OW.out⟩
  case round =>
    obtain ⟨i, ga, gc, y, rfl, hin, rfl, hI⟩ := hrel
    have HI := hid hI
    have hyl := hid hI.len
    have hsz : Hid (w.heap.size + 3 ≤ wr.heap.size) := by have := hI.bel.size; have := SW.out; show w.heap.size + 3 ≤ wr.heap.size; omega
    have c1 : wr.cell? ⟨w.heap.size, 1, none⟩ = some (.int .i64 n) := blk_cell ((hI.bel.block _ (by omega)).trans K0.out) 1
    clear hI
    by_cases hlt : i < n
    · have hx := idx_getD s (i / 8) (by omega)
      rw [show (((i / 8 : Nat)) : Int) = (i : Int) / 8 from by omega] at hx
      have hc2 : (s.data.toList.getD (i / 8) 0).toNat < 256 := UInt8.toNat_lt _
      have HF := hid (fun v w1 => HI.out.next (w1 := w1) (v := v) (b := ((s.data.toList.getD (i / 8) 0).toNat / 2 ^ (i % 8) % 2 == 1)) rfl)
      generalize (s.data.toList.getD (i / 8) 0).toNat = c at *
      have hbe : (((c : Int) / 2 ^ (i % 8)).tmod 2 == 1) = (c / 2 ^ (i % 8) % 2 == 1) := bit_eq c (i % 8)
      go_wp2_with (at_builtin; refine wpList_append_own_at _ rfl (.tmp 166) (.tmp 177) 28 rfl (w.heap.size + 3) 4 i0 (.bool false) 1 1 Tryd.underlying28 hi hz0 hz1 hz2 rfl ?_ _ y.length (y.map Value.bool) rfl ?_ ⟨wr.heap.size, 0, none⟩ 1 1 _ rfl rfl (cell_one_new _ _ _) ?_ ?_ ?_ ?_ ?_; decide; exact HI.out.own.alloc _; simp [Value.oneCell']; rw [hyl.out]; unfold maxLen; omega; rw [hyl.out]; omega; have q := hsz.out; simp; omega; intro v' w1 hown' hgrow _ hat)
      obtain ⟨g2, c2, hv, hI2⟩ := HF.out v' w1 hown' hgrow hsz.out
      exact ⟨⟨i + 1, g2, c2, _, by go_num, by omega, hv, hI2⟩, by simp [intOf]; omega⟩
    · obtain rfl : i = n := by omega
      have EY := hid HI.out.is
      have BO := hid (own_bools HI.out.own)
      have hyn : y.length ≤ 100000 := by rw [hyl.out]; omega
      have hk2 : ((i : Int) + 7) / 8 ≤ s.size := by omega
      have hk0 : 0 ≤ ((i : Int) + 7) / 8 := by omega
      have htn : (((i : Int) + 7) / 8).toNat = (i + 7) / 8 := by omega
      clear OW
      have hlen : s.data.toList.length = s.size := by simp
      have HX := hid (extract_rest s ((i + 7) / 8))
      have HXT : Hid ((s.extract 0 ((i + 7) / 8)).data.toList = s.data.toList.take ((i + 7) / 8)) := by show _ = _; rw [extract_list]; simp
      have HBW := hid HI.out.bel
      have HBR := hid (BW.out.trans (HBW.out.mono (by omega)))
      have HOW := hid HI.out.own
      clear HI BW
      cases hlo : lo s.data.toList i with
      | false =>
        have HG : Hid (RS.flags aF (i : Nat) ⟨s.data.toList, none⟩ = (unpk s.data.toList i, ⟨s.data.toList.drop ((i + 7) / 8), none⟩)) := by
          show _ = _
          simp only [RS.flags, Int.toNat_natCast]; rw [if_pos ⟨by omega, by omega, by omega, hlo⟩]
        have HT : Hid ((s.extract 0 ((i + 7) / 8)).data.toList = packL y) := by
          show _ = _
          rw [HXT.out, EY.out, packL_unpk hlo (by omega)]
        have cF := hid (fun (W' : World) (hb : Below wr.heap.size wr W') => rflags_is y (.slice ga y.length gc) W' hyn (BO.out.later hb) (s.extract 0 ((i + 7) / 8)) HT.out)
        have hbs : Below wr.heap.size wr wr := Below.refl _ _
        clear hlo HXT HT
        go_wp2_with fail
        go_region_held3 (fun W' => Below wr.heap.size wr W') (first | assumption | exact bel_drew (by assumption)) (first
          | (go_at_call 42; refine (cF.out _ ?_).mono ?_; assumption; rintro e w5 ⟨rfl, hb5⟩; have q5 := bel_rebase (by assumption) hb5))
        have z5 : w.heap.size + 3 ≤ wr.heap.size := hsz.out
        have b5 : w5.heap[w.heap.size + 1]? = some (.cells #[.int .i64 0, .int .i64 0, .string ⟨#[]⟩, .slice none 0 0] 30 (0, 0)) := (q5.block _ (by omega)).trans ((HBW.out.block _ (by omega)).trans K1.out)
        have d0 : w5.cell? ⟨w.heap.size + 1, 0, none⟩ = some (.int .i64 0) := blk_cell b5 0
        have d1 : w5.cell? ⟨w.heap.size + 1, 1, none⟩ = some (.int .i64 0) := blk_cell b5 1
        have d2 : w5.cell? ⟨w.heap.size + 1, 2, none⟩ = some (.string ⟨#[]⟩) := blk_cell b5 2
        have d3 : w5.cell? ⟨w.heap.size + 1, 3, none⟩ = some (.slice none 0 0) := blk_cell b5 3
        have f0 := blk_free b5 0
        have f1 := blk_free b5 1
        have f2 := blk_free b5 2
        have f3 := blk_free b5 3
        have Q5 := hid q5
        clear b5 q5 hb5
        go_wp2
        go_region_with fail
        all_goals go_wp2
        all_goals refine bodyPost_ret (v := .tuple #[.agg #[.int .i64 6, .int .i64 0, .string ⟨#[]⟩, .slice ga y.length gc], .string (s.extract ((i + 7) / 8) s.size), .bool true]) (by simp [results, Tryd.results17, go_sem, d0, d1, d2, d3]) rfl ?_
        all_goals rw [HG.out]
        all_goals obtain ⟨hp1, hp2⟩ := put4 (own_below HOW.out Q5.out) (HBR.out.trans (Q5.out.mono HBR.out.size)) (.int .i64 6) (.int .i64 0) (.string ⟨#[]⟩) (.slice ga y.length gc)
        all_goals exact ⟨⟨_, _, rfl, HX.out, by rw [EY.out] at hp1 ⊢; exact hp1⟩, ⟨hp2.os, hp2.tape, hp2.output, hp2.size, hp2.block⟩⟩
      | true =>
        have HG : Hid (RS.flags aF (i : Nat) ⟨s.data.toList, none⟩ = ([], ⟨s.data.toList, some (nmFlags, aF)⟩)) := by
          show _ = _
          simp only [RS.flags, Int.toNat_natCast]; rw [if_neg (by rintro ⟨_, _, _, h⟩; rw [hlo] at h; cases h)]; rfl
        obtain ⟨T, hT⟩ : ∃ T : ByteArray, T.data.toList = packL y := ⟨⟨(packL y).toArray⟩, rfl⟩
        have hne : (T.toList == (s.extract 0 ((i + 7) / 8)).toList) = false := by
          rw [beq_eq_false_iff_ne, toList_data, toList_data, hT, HXT.out, EY.out]; exact lo_other hlo
        have hne2 : (T.toList != (s.extract 0 ((i + 7) / 8)).toList) = true := by rw [bne, hne]; rfl
        have cF := hid (fun (W' : World) (hb : Below wr.heap.size wr W') => rflags_is y (.slice ga y.length gc) W' hyn (BO.out.later hb) T hT)
        have hbs : Below wr.heap.size wr wr := Below.refl _ _
        clear hlo HXT hT
        go_wp2_with fail
        go_region_held3 (fun W' => Below wr.heap.size wr W') (first | assumption | exact bel_drew (by assumption)) (first
          | (go_at_call 42; refine (cF.out _ ?_).mono ?_; assumption; rintro e w5 ⟨rfl, hb5⟩; have q5 := bel_rebase (by assumption) hb5))
        have z5 : w.heap.size + 3 ≤ wr.heap.size := hsz.out
        have b5 : w5.heap[w.heap.size + 1]? = some (.cells #[.int .i64 0, .int .i64 0, .string ⟨#[]⟩, .slice none 0 0] 30 (0, 0)) := (q5.block _ (by omega)).trans ((HBW.out.block _ (by omega)).trans K1.out)
        have n5 : w5.heap[w.heap.size + 2]? = some (.cells #[.int .i64 6, .int .i64 0, .string ⟨#[]⟩, .slice none 0 0] 30 (0, 0)) := (q5.block _ (by omega)).trans ((HBW.out.block _ (by omega)).trans K2.out)
        have d0 : w5.cell? ⟨w.heap.size + 1, 0, none⟩ = some (.int .i64 0) := blk_cell b5 0
        have d1 : w5.cell? ⟨w.heap.size + 1, 1, none⟩ = some (.int .i64 0) := blk_cell b5 1
        have d2 : w5.cell? ⟨w.heap.size + 1, 2, none⟩ = some (.string ⟨#[]⟩) := blk_cell b5 2
        have d3 : w5.cell? ⟨w.heap.size + 1, 3, none⟩ = some (.slice none 0 0) := blk_cell b5 3
        have e0 : w5.cell? ⟨w.heap.size + 1 + 1, 0, none⟩ = some (.int .i64 6) := blk_cell n5 0
        have e1 : w5.cell? ⟨w.heap.size + 1 + 1, 1, none⟩ = some (.int .i64 0) := blk_cell n5 1
        have e2 : w5.cell? ⟨w.heap.size + 1 + 1, 2, none⟩ = some (.string ⟨#[]⟩) := blk_cell n5 2
        have e3 : w5.cell? ⟨w.heap.size + 1 + 1, 3, none⟩ = some (.slice none 0 0) := blk_cell n5 3
        have f0 := blk_free b5 0
        have f1 := blk_free b5 1
        have f2 := blk_free b5 2
        have f3 := blk_free b5 3
        have Q5 := hid q5
        clear b5 n5 q5 hb5
        go_wp2
        all_goals refine bodyPost_ret (v := .tuple #[.agg #[.int .i64 6, .int .i64 0, .string ⟨#[]⟩, .slice none 0 0], .string s, .bool false]) (by simp [results, Tryd.results17, go_sem, d0, d1, d2, d3]) rfl ?_
        all_goals rw [HG.out]
        all_goals obtain ⟨hp1, hp2⟩ := put4 (own_below HOW.out Q5.out) (HBR.out.trans (Q5.out.mono HBR.out.size)) (.int .i64 6) (.int .i64 0) (.string ⟨#[]⟩) (.slice none 0 0)
        all_goals exact ⟨⟨_, _, rfl, rfl, Bools.nil _⟩, ⟨hp2.os, hp2.tape, hp2.output, hp2.size, hp2.block⟩⟩
/-- The reference's Take, of any kind. -/
theorem take_any6 (s : ByteArray) (N : Int) (text : ByteArray) (fl : List Bool) (fa : Option Addr) (fc : Nat) (hs : s.size ≤ 10000000) (aF : Addr) (w : World) :
    Calls Tryd.prog 17 #[.string s, .agg #[.int .i64 6, .int .i64 N, .string text, .slice fa fl.length fc]] w fun e w' => Took w (RS.get aF ⟨6, N, text, fl⟩ ⟨s.data.toList, none⟩) e w' := by
  by_cases h : N < 0 ∨ 65536 < N ∨ (s.size : Int) < (N + 7) / 8
  · exact take6_bad s N text fl fa fc hs aF w h
  · obtain ⟨n, rfl⟩ : ∃ n : Nat, N = n := ⟨N.toNat, by omega⟩
    exact take6_in s n text fl fa fc aF w (by omega) (by omega)
end Go.Proofs.YthngdaeiopgigaaDoor
