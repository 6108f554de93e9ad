/- Contracts: items compared. -/
import Derived.Test.YthngdaeiopgigaaDoorRi
namespace Go.Proofs.YthngdaeiopgigaaDoor
open Go.ChangeShapes Go.WideShapes Go.ChangeAt Go.RowKit
instance : DecidableEq Itm := fun x y => decidable_of_iff (x.kind = y.kind ∧ x.N = y.N ∧ x.text.data.toList = y.text.data.toList ∧ x.fl = y.fl) (by
  obtain ⟨a, b, c, d⟩ := x
  obtain ⟨a', b', c', d'⟩ := y
  constructor
  · rintro ⟨h1, h2, h3, h4⟩
    simp only at h1 h2 h3 h4
    rw [h1, h2, bytes_inj h3, h4]
  · intro h; cases h; exact ⟨rfl, rfl, rfl, rfl⟩)
theorem two_boxes (w : World) (a b : Obj) : Below w.heap.size w ((w.alloc a).alloc b) := ((Below.refl _ _).alloc (Nat.le_refl _) _).alloc (by simp) _
set_option maxHeartbeats 1600000 in
set_option maxRecDepth 100000 in
theorem same_no (x y : Itm) (xa ya : Option Addr) (xc yc : Nat) (w : World) (h : ¬ (x.kind = y.kind ∧ x.N = y.N ∧ x.text = y.text ∧ x.fl.length = y.fl.length)) :
    Calls Tryd.prog 18 #[x.val (.slice xa x.fl.length xc), y.val (.slice ya y.fl.length yc)] w fun e w' => e = .returned (.bool false) ∧ Below w.heap.size w w' := by
  obtain ⟨kd, N, text, fl⟩ := x
  obtain ⟨kd2, N2, text2, fl2⟩ := y
  simp only [Itm.val] at *
  by_cases h1 : kd = kd2
  · subst h1
    by_cases h2 : N = N2
    · subst h2
      by_cases h3 : text = text2
      · subst h3
        have h4 : (((fl.length : Int)) != (fl2.length : Int)) = true := by
          rw [bne_iff_ne]; intro e; exact h ⟨rfl, rfl, rfl, by omega⟩
        clear h
        go_enter Tryd.func18, Tryd.ntmps18
        go_wp2
        go_ret
        exact ⟨rfl, two_boxes _ _ _⟩
      · have h4 : (text.toList == text2.toList) = false := by
          rw [beq_eq_false_iff_ne, toList_data, toList_data]; exact fun e => h3 (bytes_inj e)
        clear h h3
        go_enter Tryd.func18, Tryd.ntmps18
        go_wp2
        go_ret
        exact ⟨rfl, two_boxes _ _ _⟩
    · have h4 : (N != N2) = true := by rw [bne_iff_ne]; exact h2
      clear h
      go_enter Tryd.func18, Tryd.ntmps18
      go_wp2
      go_ret
      exact ⟨rfl, two_boxes _ _ _⟩
  · have h4 : (kd != kd2) = true := by rw [bne_iff_ne]; exact h1
    clear h
    go_enter Tryd.func18, Tryd.ntmps18
    go_wp2
    go_ret
    exact ⟨rfl, two_boxes _ _ _⟩
theorem _root_.Go.RowKit.Below.drewN {B : Nat} {a w : World} (h : Below B a w) (n : Nat) : Below B a (w.drewN n) := ⟨h.os, h.tape, h.output, h.size, h.block⟩
theorem take_eq_succ {a b : List Bool} {k : Nat} (h : a.take k = b.take k) (ha : k < a.length) (hb : k < b.length) (e : a.getD k false = b.getD k false) : a.take (k + 1) = b.take (k + 1) := by
  rw [List.take_succ_eq_append_getElem ha, List.take_succ_eq_append_getElem hb, h]
  simp only [List.getD_eq_getElem?_getD, List.getElem?_eq_getElem ha, List.getElem?_eq_getElem hb, Option.getD_some] at e
  rw [e]
set_option maxHeartbeats 1600000 in
set_option maxRecDepth 100000 in
theorem same_flags (kd N : Int) (text : ByteArray) (fl fl2 : List Bool) (xa ya : Option Addr) (xc yc : Nat) (w : World) (hl : fl.length ≤ 100000) (he : fl2.length = fl.length) (hX : Bools w (.slice xa fl.length xc) fl) (hY : Bools w (.slice ya fl.length yc) fl2) :
    Calls Tryd.prog 18 #[.agg #[.int .i64 kd, .int .i64 N, .string text, .slice xa fl.length xc], .agg #[.int .i64 kd, .int .i64 N, .string text, .slice ya fl.length yc]] w fun e w' => e = .returned (.bool (decide (fl = fl2))) ∧ Below w.heap.size w w' := by
  have hbb := two_boxes w (.cells #[.int .i64 kd, .int .i64 N, .string text, .slice xa fl.length xc] 30) (.cells #[.int .i64 kd, .int .i64 N, .string text, .slice ya fl.length yc] 30)
  have h0 : ((fl.length : Int) != (fl.length : Int)) = false := by simp
  have hX2 := hX.later hbb
  have hY2 := hY.later hbb
  obtain ⟨_, _, e1, hx2⟩ := hX2
  obtain ⟨_, _, e2, hy2⟩ := hY2
  cases e1
  simp at e2
  obtain ⟨rfl, -, rfl⟩ := e2
  have HX := hid hx2
  have HY := hid hy2
  have HB := hid hbb
  clear hx2 hy2 hX hY hbb
  go_enter Tryd.func18, Tryd.ntmps18
  go_wp2
  obtain ⟨W, hW⟩ : ∃ W, W = ((w.alloc (.cells #[.int .i64 kd, .int .i64 N, .string text, .slice xa fl.length xc] 30)).alloc (.cells #[.int .i64 kd, .int .i64 N, .string text, .slice ya fl.length yc] 30)) := ⟨_, rfl⟩
  rw [← hW] at HX HY HB ⊢
  have bx : W.heap[w.heap.size]? = some (.cells #[.int .i64 kd, .int .i64 N, .string text, .slice xa fl.length xc] 30 (0, 0)) := by rw [hW, Below.heap_alloc _ _ _ (by simp)]; exact blk_new _ _
  have byy : W.heap[w.heap.size + 1]? = some (.cells #[.int .i64 kd, .int .i64 N, .string text, .slice ya fl.length yc] 30 (0, 0)) := by
    have e : (w.alloc (.cells #[.int .i64 kd, .int .i64 N, .string text, .slice xa fl.length xc] 30)).heap.size = w.heap.size + 1 := by simp
    rw [hW, ← e]; exact blk_new _ _
  have c3 : W.cell? ⟨w.heap.size, 3, none⟩ = some (.slice xa fl.length xc) := blk_cell bx 3
  have d3 : W.cell? ⟨w.heap.size + 1, 3, none⟩ = some (.slice ya fl.length yc) := blk_cell byy 3
  clear hW bx byy
  go_loopw [5] (fun i wr => ∃ (k m : Nat), i = .int .i64 k ∧ k ≤ fl.length ∧ wr = W.drewN m ∧ fl.take k = fl2.take k) (fun i _ => fl.length - (intOf i).toNat)
  case atStart => exact ⟨0, 0, rfl, Nat.zero_le _, rfl, rfl⟩
  case round =>
    obtain ⟨k, m, rfl, hk, rfl, ht⟩ := hrel
    have HT := hid ht
    clear ht
    have c3' : (W.drewN m).cell? ⟨w.heap.size, 3, none⟩ = some (.slice xa fl.length xc) := c3
    have d3' : (W.drewN m).cell? ⟨w.heap.size + 1, 3, none⟩ = some (.slice ya fl.length yc) := d3
    by_cases hlt : k < fl.length
    · obtain ⟨xb, xo, rfl, hxc⟩ := HX.out.resolve_left (by intro e; subst e; simp at hlt)
      obtain ⟨yb, yo, rfl, hyc⟩ := HY.out.resolve_left (by intro e; rw [e] at he; simp at he; omega)
      have a1 : W.cell? ⟨xb, xo + k, none⟩ = some (.bool (fl.getD k false)) := hxc k hlt
      have a2 : W.cell? ⟨yb, yo + k, none⟩ = some (.bool (fl2.getD k false)) := hyc k (by omega)
      by_cases hb : fl.getD k false = fl2.getD k false
      · have HT' := hid (take_eq_succ HT.out hlt (by omega) hb)
        rw [← hb] at a2
        generalize fl.getD k false = bo at *
        clear HX HY hxc hyc hb
        go_wp2
        go_quiet (fail)
        go_wp2
        exact ⟨⟨k + 1, _, by go_num, by omega, rfl, HT'.out⟩, by simp [intOf]; omega⟩
      · have hbo : (fl.getD k false == fl2.getD k false) = false := by rw [beq_eq_false_iff_ne]; exact hb
        have HF : Hid (decide (fl = fl2) = false) := by
          show decide (fl = fl2) = false
          rw [decide_eq_false_iff_not]; intro e; exact hb (by rw [e])
        generalize fl.getD k false = b1 at *
        generalize fl2.getD k false = b2 at *
        clear HX HY hxc hyc hb
        go_wp2
        go_quiet (fail)
        go_wp2
        go_ret
        exact ⟨by rw [HF.out]; rfl, (HB.out.drewN _).drewN _⟩
    · have HF : Hid (decide (fl = fl2) = true) := by
        show decide (fl = fl2) = true
        rw [decide_eq_true_iff]
        have e := HT.out
        rwa [List.take_of_length_le (by omega), List.take_of_length_le (by omega)] at e
      go_wp2
      go_ret
      exact ⟨by rw [HF.out]; rfl, HB.out.drewN m⟩
theorem same_any (x y : Itm) (vx vy : Value) (w : World) (hl : x.fl.length ≤ 100000) (hX : Bools w vx x.fl) (hY : Bools w vy y.fl) :
    Calls Tryd.prog 18 #[x.val vx, y.val vy] w fun e w' => e = .returned (.bool (decide (x = y))) ∧ Below w.heap.size w w' := by
  obtain ⟨xa, xc, rfl, h1⟩ := id hX
  obtain ⟨ya, yc, rfl, h2⟩ := id hY
  by_cases h : x.kind = y.kind ∧ x.N = y.N ∧ x.text = y.text ∧ x.fl.length = y.fl.length
  · obtain ⟨kd, N, text, fl⟩ := x
    obtain ⟨kd2, N2, text2, fl2⟩ := y
    obtain ⟨e1, e2, e3, e4⟩ := h
    simp only at e1 e2 e3 e4 hX hY hl
    subst e1 e2 e3
    rw [show decide ((⟨kd, N, text, fl⟩ : Itm) = ⟨kd, N, text, fl2⟩) = decide (fl = fl2) from by simp]
    simp only [Itm.val, ← e4]
    rw [← e4] at hY
    exact same_flags kd N text fl fl2 xa ya xc yc w hl e4.symm hX hY
  · rw [show decide (x = y) = false from by rw [decide_eq_false_iff_not]; rintro rfl; exact h ⟨rfl, rfl, rfl, rfl⟩]
    exact same_no x y xa ya xc yc w h
end Go.Proofs.YthngdaeiopgigaaDoor
