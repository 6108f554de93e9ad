/- dice.Shuffle. -/
import Derived.Test.YtbealadcnpheiaaDx
namespace Go.Proofs.Ytbealadcnpheiaa
open Go.ChangeShapes Go.WideShapes Go.ChangeAt Go.RowKit
theorem getD_at {l : List Nat} {k x : Nat} (h : l[k]? = some x) : l.getD k 0 = x := by simp [h]
theorem swp_map {l : List Nat} {i j x y : Nat} (hi : l[i]? = some x) (hj : l[j]? = some y) : ((l.map iv).set i (iv y)).set j (iv x) = (swp l i j).map iv := by
  unfold swp; rw [getD_at hi, getD_at hj, List.map_set, List.map_set]
theorem own_swp {w : World} {B n c g : Nat} {l : List Nat} {i j x y : Nat} (h : w.ownsRow B 3 1 (.slice (some ⟨g, 0, none⟩) n c) n (l.map iv)) (hi : l[i]? = some x) (hj : l[j]? = some y) :
    ((w.setCell ⟨g, i, none⟩ (.int .i64 y)).setCell ⟨g, j, none⟩ (.int .i64 x)).ownsRow B 3 1 (.slice (some ⟨g, 0, none⟩) n c) n ((swp l i j).map iv) := by
  have h2 := (h.stored i (iv y)).1.stored j (iv x)
  rw [swp_map hi hj] at h2
  exact h2.1
set_option maxHeartbeats 1600000 in
set_option maxRecDepth 100000 in
theorem shuffle_any (s b : Int) (hb : b ≤ 200) (w : World) :
    Calls Try.prog 12 #[.int .i64 s, .int .i64 b] w fun e w' => ∃ ga gc, e = .returned (.tuple #[.int .i64 (shuf (b.toNat - 1) s (List.range b.toNat)).1, .slice ga b.toNat gc]) ∧ w'.ownsRow w.heap.size 3 1 (.slice ga b.toNat gc) b.toNat ((shuf (b.toNat - 1) s (List.range b.toNat)).2.map iv) ∧ Below w.heap.size w w' := by
  have hb2 : b ≤ 4096 := by omega
  have R := hid (fun w => rising_any b hb2 w)
  obtain ⟨n, hn⟩ : ∃ n, n = b.toNat := ⟨_, rfl⟩
  rw [← hn] at R ⊢
  have hn1 : n ≤ 200 := by omega
  have HN := hid hn
  have hm : min b 4096 = b := by omega
  clear hn
  go_enter Try.func12, Try.ntmps12
  go_wp2_with fail
  refine (R.out _).mono ?_
  rintro e w1 ⟨ga, gc, rfl, ho, hbl⟩
  have O1 := hid ho
  have B1 := hid hbl
  clear ho hbl
  go_wp2_with fail
  go_loopw [0, 7, 8] (fun sv i _ wr => ∃ (S : Int) (L : List Nat), sv = .int .i64 S ∧ wr.ownsRow w.heap.size 3 1 (.slice ga n gc) n (L.map iv) ∧ Below w.heap.size w wr ∧
      ((n = 0 ∧ i = .int .i64 (-1) ∧ (S, L) = shuf (n - 1) s (List.range n)) ∨ ∃ m : Nat, m < n ∧ i = .int .i64 m ∧ shuf m S L = shuf (n - 1) s (List.range n))) (fun _ i _ _ => (intOf i).toNat)
  case atStart =>
    refine ⟨s, List.range n, rfl, O1.out, B1.out, ?_⟩
    rcases Nat.eq_zero_or_pos n with h | h
    · exact .inl ⟨h, by rw [h]; rfl, by rw [h]; rfl⟩
    · exact .inr ⟨n - 1, by omega, by congr 1; omega, rfl⟩
  case round =>
    obtain ⟨S, L, rfl, ho, hbl, hi⟩ := hrel
    have HO := hid ho
    have HB := hid hbl
    clear ho hbl
    rcases hi with ⟨h0, rfl, he⟩ | ⟨m, hm1, rfl, he⟩
    · have HE := hid he
      clear he
      go_wp2_with fail
      go_ret2
      exact ⟨ga, gc, by rw [← HE.out]; rfl, by rw [← HE.out]; exact HO.out, HB.out⟩
    · have HE := hid he
      clear he
      rcases Nat.eq_zero_or_pos m with h0 | h0
      · subst h0
        go_wp2_with fail
        go_ret2
        exact ⟨ga, gc, by rw [← HE.out]; rfl, by rw [← HE.out]; exact HO.out, HB.out⟩
      · have HL : Hid (L.length = n) := by have := HO.out.1; show L.length = n; simpa using this
        obtain ⟨hd, hd2⟩ := drawN_eq S (m + 1) (by omega) (by omega)
        have HM := hid (show shuf m S L = shuf (m - 1) (stepZ S) (swp L m (drawN S (m + 1))) by
          obtain ⟨q, rfl⟩ : ∃ q, m = q + 1 := ⟨m - 1, by omega⟩
          rfl)
        have HD := hid hd
        obtain ⟨j, hj⟩ : ∃ j, j = drawN S (m + 1) := ⟨_, rfl⟩
        rw [← hj] at HM HD hd2
        obtain ⟨x, hx⟩ := at_lt L m (by rw [HL.out]; exact hm1)
        obtain ⟨y, hy⟩ := at_lt L j (by rw [HL.out]; omega)
        obtain ⟨g, rfl, hg⟩ := own_some HO.out (by omega)
        have c1 : Hid (wr.cell? ⟨g, m, none⟩ = some (.int .i64 x)) := by show wr.cell? ⟨g, m, none⟩ = _; rw [HO.out.cellAt m (by omega)]; simp [hx, iv]
        have c2 : Hid (wr.cell? ⟨g, j, none⟩ = some (.int .i64 y)) := by show wr.cell? ⟨g, j, none⟩ = _; rw [HO.out.cellAt j (by omega)]; simp [hy, iv]
        have f1 := hid (HO.out.frozenAt m)
        have f2 := hid (HO.out.frozenAt j)
        have NX := hid (own_swp HO.out hx hy)
        clear hx hy hd hj
        go_wp2_with fail
        refine (draw_pos _ _ (by omega) (by omega) _).mono ?_
        rw [show ((m : Int) + 1) = ((m + 1 : Nat) : Int) by omega, HD.out]
        rintro e w' ⟨rfl, N, rfl⟩
        have c1 := c1.out
        have c2 := c2.out
        have f1 := f1.out
        have f2 := f2.out
        go_wp2_with fail
        have B2 := hid (((Below.drewN HB.out (N + 1)).setCell (p := ⟨g, m, none⟩) hg.1 (.int .i64 y)).setCell (p := ⟨g, j, none⟩) hg.1 (.int .i64 x))
        rcases Nat.lt_or_ge j m with hjm | hjm
        · go_region
          go_wp2_with fail
          go_roundw
          case rel =>
            refine ⟨stepZ S, swp L m j, rfl, NX.out, B2.out, .inr ⟨m - 1, by omega, by congr 1; omega, by rw [← HM.out, HE.out]⟩⟩
          case measure => simp [intOf]; omega
        · obtain rfl : j = m := by omega
          obtain rfl : x = y := by have h := c1.symm.trans c2; simp at h; omega
          clear c2 f2
          go_region
          go_wp2_with fail
          go_roundw
          case rel =>
            refine ⟨stepZ S, swp L j j, rfl, NX.out, B2.out, .inr ⟨j - 1, by omega, by congr 1; omega, by rw [← HM.out, HE.out]⟩⟩
          case measure => simp [intOf]; omega
end Go.Proofs.Ytbealadcnpheiaa
