/- TallySums: the walk. -/
import Derived.Test.YtieelgikhbnalaaTj
import Derived.Deep.RegionHeld3
import Derived.OneCell
namespace Go.Proofs.Ytieelgikhbnalaa
open Go.ChangeShapes Go.WideShapes Go.ChangeAt Go.RowKit
/-- What comes to a sum. -/
structure AddI where
  is : Bool
  n : Int
  text : ByteArray
def Adds (w : World) (v : Value) (l : List AddI) : Prop := ∃ a c, v = .slice a l.length c ∧ (l = [] ∨ ∃ b o, a = some ⟨b, o, none⟩ ∧ ∀ (j : Nat) x, l[j]? = some x → w.cell? ⟨b, o + j * 3, none⟩ = some (.bool x.is) ∧ w.cell? ⟨b, o + j * 3 + 1, none⟩ = some (.int .i64 x.n) ∧ w.cell? ⟨b, o + j * 3 + 2, none⟩ = some (.string x.text))
theorem Adds.later {w w' : World} {v : Value} {l : List AddI} {B : Nat} (h : Adds w v l) (hb : Below B w w') (hB : w.heap.size ≤ B) : Adds w' v l := by
  obtain ⟨a, c, rfl, h⟩ := h
  refine ⟨a, c, rfl, ?_⟩
  rcases h with h | ⟨b, o, ha, h⟩
  · exact .inl h
  · refine .inr ⟨b, o, ha, fun j x hx => ?_⟩
    obtain ⟨h0, h1, h2⟩ := h j x hx
    have hlt : b < w.heap.size := World.block_lt_of_cell? w _ h0
    exact ⟨(hb.cell (p := ⟨b, _, none⟩) (by show b < B; omega)).trans h0, (hb.cell (p := ⟨b, _, none⟩) (by show b < B; omega)).trans h1, (hb.cell (p := ⟨b, _, none⟩) (by show b < B; omega)).trans h2⟩
theorem Tal.lt {w : World} {b : Nat} {h : Int} (hT : Tal w b h) : b < w.heap.size := (Array.getElem?_eq_some_iff.1 hT).1
theorem Tal.set {w : World} {b : Nat} {h : Int} (hT : Tal w b h) (g : Int) : Tal (w.setCell ⟨b, 0, none⟩ (.int .u64 g)) b g := blk_set hT 0 (.int .u64 g)
theorem Tal.later {w w' : World} {b B : Nat} {h : Int} (hT : Tal w b h) (hb : Below B w w') (hB : b < B) : Tal w' b h := (hb.block b hB).trans hT
theorem own_set {w : World} {b B n : Nat} {e : TypeId} {v : Value} {xs : List Value} (h : w.ownsRow B e 1 v n xs) (hb : b < B) (u : Value) : (w.setCell ⟨b, 0, none⟩ u).ownsRow B e 1 v n xs :=
  ownsRow_setCell_other h (a := ⟨b, 0, none⟩) (fun hk => by have := own_block h hk; simp at this; omega) u
theorem cat_sum (ts : List ByteArray) (s : ByteArray) : ovT (ovT st (cat ts)) s.data.toList = ovT st (cat (ts ++ [s])) := by rw [cat_snoc, ovT_app]
theorem mem_snoc {ts : List ByteArray} {s : ByteArray} (h : ∀ t ∈ ts, t.size ≤ 4096) (hs : s.size ≤ 4096) : ∀ t ∈ ts ++ [s], t.size ≤ 4096 := by
  intro t ht
  rcases List.mem_append.1 ht with h1 | h1
  · exact h t h1
  · have : t = s := by simpa using h1
    subst this; exact hs
/-- How it stands in the first loop. -/
structure Inv (w1 : World) (l : List AddI) (k : Nat) (ga : Option Addr) (gc : Nat) (ts : List ByteArray) (wr : World) : Prop where
  own : wr.ownsRow (w1.heap.size + 1) 9 1 (.slice ga ts.length gc) ts.length (ts.map sv)
  tal : Tal wr w1.heap.size (ovT st (cat ts))
  bel : Below w1.heap.size w1 wr
  len : ts.length = k
  small : ∀ t ∈ ts, t.size ≤ 4096
theorem own_later {w w' : World} {B n : Nat} {e : TypeId} {v : Value} {xs : List Value} (h : w.ownsRow B e 1 v n xs) (hb : Below w.heap.size w w') : w'.ownsRow B e 1 v n xs := by
  refine ⟨h.1, ?_⟩
  rcases h.2 with h1 | ⟨g, cap, cur, h1, h2, h3, h4⟩
  · exact .inl h1
  · exact .inr ⟨g, cap, cur, h1, h2, (hb.block g (Array.getElem?_eq_some_iff.1 h3).1).trans h3, h4⟩
theorem Inv.next {w1 : World} {l : List AddI} {k : Nat} {ga : Option Addr} {gc : Nat} {ts : List ByteArray} {wr W3 W4 : World} {s : ByteArray} {g1 : Option Addr} {c1 : Nat} {y1 : List ByteArray}
    (hI : Inv w1 l k ga gc ts wr) (tal3 : Tal W3 w1.heap.size (ovT st (cat (ts ++ [s])))) (bel3 : Below w1.heap.size w1 W3) (hs : s.size ≤ 4096) (h4 : y1 = ts ++ [s])
    (o4 : W4.ownsRow (w1.heap.size + 1) 9 1 (.slice g1 y1.length c1) y1.length (y1.map sv)) (b4 : Below (w1.heap.size + 1) (W3.alloc (.cells #[.string s] 9)) W4) : Inv w1 l (k + 1) g1 c1 y1 W4 := by
  have hl := tal3.lt
  have e3 : Below (w1.heap.size + 1) W3 (W3.alloc (.cells #[.string s] 9)) := (Below.refl _ _).alloc (by omega) _
  refine ⟨o4, ?_, ?_, ?_, ?_⟩
  · rw [h4]; exact tal3.later (e3.trans b4) (by omega)
  · exact bel3.trans ((e3.trans b4).mono (by omega))
  · rw [h4]; simp [hI.len]
  · rw [h4]; exact mem_snoc hI.small hs
theorem size_le (w : World) (o : Obj) : w.heap.size ≤ (w.alloc o).heap.size := by simp
theorem bne_self (h : Int) : (h != h) = false := by simp
set_option maxHeartbeats 1600000 in
set_option maxRecDepth 100000 in
theorem sums_any (v vs : Value) (l : List AddI) (ns : List Nat) (w : World) (hl : l.length ≤ 60) (hn : ns.length ≤ 60) (hs : ∀ x ∈ l, x.text.size ≤ maxLen) (hv : Adds w v l) (hvs : RowV w vs (ns.map nv)) :
    Calls Try.prog 3 #[v, vs] w fun e w' => e = .returned (.bool true) ∧ Below w.heap.size w w' := by
  have HV := hid hv
  have HN := hid hvs
  obtain ⟨a, c, rfl, -⟩ := hv
  obtain ⟨na, nc, hnv, -⟩ := hvs.plain
  rw [List.length_map] at hnv
  subst hnv
  have HS := hid hs
  have hli : (l.length : Int) ≤ 60 := by omega
  have hni : (ns.length : Int) ≤ 60 := by omega
  clear hvs hs
  go_enter Try.func3, Try.ntmps3
  go_wp2_with fail
  refine (awake_any _).mono ?_
  rintro e w1 ⟨rfl, hb1⟩
  have V1 := hid (HV.out.later hb1 (Nat.le_refl _))
  have N1 := hid (HN.out.later hb1 (Nat.le_refl _))
  have W1 := hid hb1
  clear HV HN hb1
  go_wp2_with fail
  refine (new_any _).mono ?_
  rintro e w' ⟨rfl, rfl⟩
  have T0 : Hid (Tal (w1.alloc (.cells #[.int .u64 st] 49)) w1.heap.size st) := blk_new w1 (.cells #[.int .u64 st] 49)
  have B0 := hid ((Below.refl w1.heap.size w1).alloc (Nat.le_refl _) (.cells #[.int .u64 st] 49))
  have O0 := hid (lit_row (w1.alloc (.cells #[.int .u64 st] 49)) #[] 9 (by simp))
  have I0 : Hid (Inv w1 l 0 (some ⟨w1.heap.size + 1, 0, none⟩) 0 [] ((w1.alloc (.cells #[.int .u64 st] 49)).alloc (.cells #[] 9))) := by
    refine ⟨?_, ?_, ?_, rfl, by simp⟩
    · have := O0.out; simpa using this
    · exact T0.out.later (B := w1.heap.size + 1) ((Below.refl _ _).alloc (by simp) _) (by omega)
    · exact B0.out.alloc (by simp) _
  clear T0 B0 O0
  go_wp2_with fail
  go_loopw [6, 7] (fun tv i wr => ∃ (k : Nat) (ga : Option Addr) (gc : Nat) (ts : List ByteArray), k ≤ l.length ∧ i = .int .i64 k ∧ tv = .slice ga ts.length gc ∧ Inv w1 l k ga gc ts wr) (fun _ i _ => l.length - (intOf i).toNat)
  case atStart => exact ⟨0, _, 0, [], Nat.zero_le _, rfl, rfl, I0.out⟩
  case round =>
    obtain ⟨k, ga, gc, ts, hk, rfl, rfl, hI⟩ := hrel
    have VR := hid (V1.out.later hI.bel (Nat.le_refl _))
    have HI := hid hI
    have htl : Hid (ts.length ≤ 60) := by have := hI.len; show ts.length ≤ 60; omega
    clear hI
    by_cases hlt : k < l.length
    · obtain ⟨x, hxk⟩ := at_lt l k hlt
      obtain ⟨_, _, hva2, hcs⟩ := id VR.out
      obtain ⟨b, o, rfl, hc⟩ := hcs.resolve_left (by rintro rfl; simp at hlt)
      simp only [Value.slice.injEq, true_and] at hva2
      obtain ⟨rfl, rfl⟩ := hva2
      have hbw : b < w1.heap.size := by
        obtain ⟨_, _, hva3, hcs3⟩ := id V1.out
        rcases hcs3 with h | ⟨b3, o3, h3, hc3⟩
        · rw [h] at hlt; simp at hlt
        · simp only [Value.slice.injEq, true_and] at hva3
          obtain ⟨rfl, -⟩ := hva3
          simp only [Option.some.injEq, Addr.mk.injEq, and_true] at h3
          obtain ⟨rfl, rfl⟩ := h3
          exact World.block_lt_of_cell? w1 _ (hc3 k x hxk).1
      have hm := HS.out x (List.mem_of_getElem? hxk)
      unfold maxLen at hm
      have HC := hid (fun (W : World) (hB : Below w1.heap.size w1 W) => show W.cell? ⟨b, o + k * 3, none⟩ = some (.bool x.is) ∧ W.cell? ⟨b, o + k * 3 + 1, none⟩ = some (.int .i64 x.n) ∧ W.cell? ⟨b, o + k * 3 + 2, none⟩ = some (.string x.text) from by
        obtain ⟨_, _, hva3, hcs3⟩ := V1.out.later hB (Nat.le_refl _)
        rcases hcs3 with h | ⟨b3, o3, h3, hc3⟩
        · rw [h] at hlt; simp at hlt
        · simp only [Value.slice.injEq, true_and] at hva3
          obtain ⟨rfl, -⟩ := hva3
          simp only [Option.some.injEq, Addr.mk.injEq, and_true] at h3
          obtain ⟨rfl, rfl⟩ := h3
          exact hc3 k x hxk)
      obtain ⟨c0, c1, c2⟩ := HC.out wr HI.out.bel
      clear hc hxk VR
      by_cases h4 : 4096 < x.text.size
      · go_wp2_with fail
        go_ret
        exact ⟨rfl, Below.rebase W1.out HI.out.bel⟩
      · obtain ⟨isb, n, text⟩ := x
        simp only at c0 c1 c2 hm h4 HC
        cases isb with
        | true =>
          go_wp2_with fail
          refine (num_any _ _ n _ HI.out.tal).mono ?_
          rintro e W2 ⟨rfl, hW2⟩
          have O2 : Hid (W2.ownsRow (w1.heap.size + 1) 9 1 (.slice ga ts.length gc) ts.length (ts.map sv)) := by rw [hW2]; exact own_set HI.out.own (by omega) _
          have T2 : Hid (Tal W2 w1.heap.size (ovT (ovT st (cat ts)) (numL (unsg n)))) := by rw [hW2]; exact HI.out.tal.set _
          have B2 : Hid (Below w1.heap.size w1 W2) := by rw [hW2]; exact HI.out.bel.setCell (Nat.le_refl _) _
          clear hW2 c0 c1 c2
          obtain ⟨c0, c1, c2⟩ := HC.out W2 B2.out
          have hu := unsg_wrap n
          go_wp2_with fail
          refine (rnum_any (unsg n) _).mono ?_
          rintro e W3 ⟨⟨s, rfl, hs3⟩, hb3⟩
          have O3 := hid (own_later O2.out hb3)
          have T3 : Hid (Tal W3 w1.heap.size (ovT st (cat (ts ++ [s])))) := by
            rw [← cat_sum, hs3]; exact T2.out.later hb3 T2.out.lt
          have B3 := hid (B2.out.trans (hb3.mono B2.out.size))
          have hz : s.size ≤ 4096 := by
            have h1 : s.size = (numL (unsg n)).length := by rw [← hs3]; simp
            rw [h1, size_numL]; omega
          clear hs3 hb3 O2 T2 B2 c0 c1 c2 hu
          go_wp2_with (at_builtin; refine wpList_strs _ rfl (.tmp 47) (.tmp 55) rfl (w1.heap.size + 1) _ ts rfl ?_ _ [s] rfl ?_ ?_ ?_ ?_; exact O3.out.alloc _; exact row_one _ _ _; have q := htl.out; simp; omega; exact Nat.le_trans T3.out.lt (size_le _ _); intro g1 c1 y1 W4 h4 o4 b4)
          have I4 := hid (HI.out.next T3.out B3.out hz h4.out o4.out b4.out)
          have S4 := hid (sum_any _ _ W4 I4.out.tal)
          have F4 := hid (rof_any _ y1 W4 (by have q := I4.out.len; omega) (fun t ht => by have q := I4.out.small t ht; omega) (own_rowV o4.out).strs)
          obtain ⟨h, hh⟩ : ∃ h, h = ovT st (cat y1) := ⟨_, rfl⟩
          rw [← hh] at S4 F4
          have hb := bne_self h
          clear hh h4 o4 b4 O3 T3 B3
          go_wp2_with fail
          refine S4.out.mono ?_
          rintro e w' ⟨rfl, rfl⟩
          go_wp2_with fail
          refine F4.out.mono ?_
          rintro e w' ⟨rfl, rfl⟩
          go_wp2_with fail
          go_roundw
          case rel => exact ⟨k + 1, g1, c1, y1, by omega, by go_num, rfl, I4.out⟩
          case measure => simp [intOf]; omega
        | false =>
          go_wp2_with fail
          refine (add_any _ _ text _ (by omega) HI.out.tal).mono ?_
          rintro e W3 ⟨rfl, hW2⟩
          have O3 : Hid (W3.ownsRow (w1.heap.size + 1) 9 1 (.slice ga ts.length gc) ts.length (ts.map sv)) := by rw [hW2]; exact own_set HI.out.own (by omega) _
          have T3 : Hid (Tal W3 w1.heap.size (ovT st (cat (ts ++ [text])))) := by rw [hW2, ← cat_sum]; exact HI.out.tal.set _
          have B3 : Hid (Below w1.heap.size w1 W3) := by rw [hW2]; exact HI.out.bel.setCell (Nat.le_refl _) _
          clear hW2 c0 c1 c2
          obtain ⟨c0, c1, c2⟩ := HC.out W3 B3.out
          go_wp2_with (at_builtin; refine wpList_strs _ rfl (.tmp 64) (.tmp 70) rfl (w1.heap.size + 1) _ ts rfl ?_ _ [text] rfl ?_ ?_ ?_ ?_; exact O3.out.alloc _; exact row_one _ _ _; have q := htl.out; simp; omega; exact Nat.le_trans T3.out.lt (size_le _ _); intro g1 c1 y1 W4 h4 o4 b4)
          have I4 := hid (HI.out.next T3.out B3.out (by omega) h4.out o4.out b4.out)
          have S4 := hid (sum_any _ _ W4 I4.out.tal)
          have F4 := hid (rof_any _ y1 W4 (by have q := I4.out.len; omega) (fun t ht => by have q := I4.out.small t ht; omega) (own_rowV o4.out).strs)
          obtain ⟨h, hh⟩ : ∃ h, h = ovT st (cat y1) := ⟨_, rfl⟩
          rw [← hh] at S4 F4
          have hb := bne_self h
          clear hh h4 o4 b4 O3 T3 B3
          go_wp2_with fail
          refine S4.out.mono ?_
          rintro e w' ⟨rfl, rfl⟩
          go_wp2_with fail
          refine F4.out.mono ?_
          rintro e w' ⟨rfl, rfl⟩
          go_wp2_with fail
          go_roundw
          case rel => exact ⟨k + 1, g1, c1, y1, by omega, by go_num, rfl, I4.out⟩
          case measure => simp [intOf]; omega
    · have O5 := hid (own_rowV HI.out.own)
      have N5 := hid (N1.out.later HI.out.bel (Nat.le_refl _))
      have W5 := hid (Below.rebase W1.out HI.out.bel)
      have hsm := hid HI.out.small
      have htl2 : (ts.length : Int) ≤ 60 := by have := htl.out; omega
      clear HI VR V1 N1 W1 I0
      go_wp2_with fail
      go_loopw [8] (fun i w6 => ∃ (j : Nat), j ≤ ts.length ∧ i = .int .i64 j ∧ Below wr.heap.size wr w6) (fun i _ => ts.length - (intOf i).toNat)
      case atStart => exact ⟨0, Nat.zero_le _, rfl, Below.refl _ _⟩
      case round =>
        obtain ⟨j, hj, rfl, hb6⟩ := hrel
        have O6 := hid (O5.out.later hb6 (Nat.le_refl _))
        have HB6 := hid hb6
        by_cases hjl : j < ts.length
        · obtain ⟨s, hsj⟩ := at_lt ts j hjl
          obtain ⟨_, _, hva2, hcs⟩ := O6.out.strs
          obtain ⟨b, o, rfl, hc⟩ := hcs.resolve_left (by rintro rfl; simp at hjl)
          simp only [Value.slice.injEq, true_and] at hva2
          obtain ⟨rfl, rfl⟩ := hva2
          have c1 := hc j s hsj
          have hz := hsm.out s (List.mem_of_getElem? hsj)
          obtain ⟨h, hh⟩ : ∃ h, h = shZ (ovT st s.data.toList) := ⟨_, rfl⟩
          have cA := hid (fun (W : World) => short_any s W (by omega))
          have cB := hid (fun (W : World) => rshort_any s W (by omega))
          simp only [← hh] at cA cB
          have hbn := bne_self h
          have hj0 : (0 : Int) ≤ (j : Int) := by omega
          have hj1 : (j : Int) < (ts.length : Int) := by omega
          clear hc hsj hh
          go_wp2_with fail
          go_region_held3 (fun W => W.cell? ⟨b, o + j, none⟩ = some (.string s)) (go_keep) (first
            | (go_at_call 14; refine (cA.out _).mono ?_; rintro e w7 ⟨rfl, rfl⟩)
            | (go_at_call 15; refine (cB.out _).mono ?_; rintro e w7 ⟨rfl, rfl⟩))
          all_goals go_wp2
          all_goals exact ⟨⟨j + 1, by omega, by go_num, (HB6.out.alloc HB6.out.size _).drewN 1⟩, by simp [intOf]; omega⟩
        · have cO := hid (of_any _ ts wr (by omega) (fun t ht => by have := hsm.out t ht; omega) O6.out.strs)
          have cR := hid (rof_any _ ts wr (by omega) (fun t ht => by have := hsm.out t ht; omega) O6.out.strs)
          have N6 := hid (N5.out.later hb6 (Nat.le_refl _))
          have cM := hid (mix_any _ ns wr (by omega) N6.out.nums)
          have cN := hid (rmix_any _ ns wr hn N6.out)
          obtain ⟨h, hh⟩ : ∃ h, h = ovT st (cat ts) := ⟨_, rfl⟩
          obtain ⟨g, hg⟩ : ∃ g, g = mixZ ns := ⟨_, rfl⟩
          rw [← hh] at cO cR
          rw [← hg] at cM cN
          clear hh hg hb6
          go_wp2_with fail
          refine (add_nil _ _).mono ?_
          rintro e w' ⟨rfl, rfl⟩
          go_wp2_with fail
          refine (num_nil _ _).mono ?_
          rintro e w' ⟨rfl, rfl⟩
          go_wp2_with fail
          refine cO.out.mono ?_
          rintro e w' ⟨rfl, rfl⟩
          go_wp2_with fail
          refine cR.out.mono ?_
          rintro e w' ⟨rfl, rfl⟩
          go_wp2_with fail
          refine cM.out.mono ?_
          rintro e w' ⟨rfl, rfl⟩
          go_wp2_with fail
          refine cN.out.mono ?_
          rintro e w8 ⟨rfl, hb8⟩
          have B8 := hid (Below.rebase W5.out (Below.rebase HB6.out hb8))
          clear hb8
          go_wp2_with fail
          refine (sum_nil _).mono ?_
          rintro e w' ⟨rfl, rfl⟩
          unfold st
          go_wp2_with fail
          go_ret
          exact ⟨rfl, B8.out⟩
theorem sums_out (v vs : Value) (l : List AddI) (ns : List Nat) (w : World) (hl : l.length ≤ maxLen) (hn : ns.length ≤ maxLen) (h : 60 < l.length ∨ 60 < ns.length) (hv : Adds w v l) (hvs : RowV w vs (ns.map nv)) :
    Calls Try.prog 3 #[v, vs] w fun e w' => e = .returned (.bool true) ∧ Below w.heap.size w w' := by
  obtain ⟨a, c, rfl, -⟩ := hv
  obtain ⟨na, nc, hnv, -⟩ := hvs.plain
  rw [List.length_map] at hnv
  subst hnv
  unfold maxLen at hl hn
  by_cases h1 : 60 < l.length
  · go_enter Try.func3, Try.ntmps3
    go_wp2_with (go_at_call 7; refine (awake_any _).mono ?_; rintro e w1 ⟨rfl, hb1⟩)
    go_ret
    exact ⟨rfl, hb1⟩
  · have h2 := h.resolve_left h1
    go_enter Try.func3, Try.ntmps3
    go_wp2_with (go_at_call 7; refine (awake_any _).mono ?_; rintro e w1 ⟨rfl, hb1⟩)
    go_ret
    exact ⟨rfl, hb1⟩
end Go.Proofs.Ytieelgikhbnalaa
