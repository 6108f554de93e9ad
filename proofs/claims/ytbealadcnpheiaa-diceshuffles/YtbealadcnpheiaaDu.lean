/- DiceShuffles: the walk. -/
import Derived.Test.YtbealadcnpheiaaDt
import Derived.Deep.WholeRow
namespace Go.Proofs.Ytbealadcnpheiaa
open Go.ChangeShapes Go.WideShapes Go.ChangeAt Go.RowKit
theorem swp_perm (l : List Nat) (i j : Nat) (hi : i < l.length) (hj : j < l.length) : (swp l i j).Perm l := by
  unfold swp
  rw [List.getD_eq_getElem?_getD, List.getD_eq_getElem?_getD, List.getElem?_eq_getElem hi, List.getElem?_eq_getElem hj]
  exact List.set_set_perm hi hj
theorem shuf_perm : ∀ (k : Nat) (s : Int) (l : List Nat), k < l.length → l.length ≤ 5000 → (shuf k s l).2.Perm l
  | 0, _, _, _, _ => List.Perm.refl _
  | k + 1, s, l, h, h5 => by
    have hd := (drawN_eq s (k + 2) (by omega) (by omega)).2
    have h1 := swp_perm l (k + 1) (drawN s (k + 2)) h (by omega)
    show (shuf k (stepZ s) (swp l (k + 1) (drawN s (k + 2)))).2.Perm l
    exact (shuf_perm k _ _ (by rw [swp_len]; omega) (by rw [swp_len]; omega)).trans h1
theorem shuf_range (n : Nat) (s : Int) (h : n ≤ 5000) : (shuf (n - 1) s (List.range n)).2.Perm (List.range n) := by
  rcases Nat.eq_zero_or_pos n with h0 | h0
  · subst h0; exact List.Perm.refl _
  · exact shuf_perm _ _ _ (by simp; omega) (by simpa using h)
theorem rem201 (m : Int) : ∃ n : Nat, n < 201 ∧ wrap64 ((IntKind.u64.wrap m).tmod 201) = (n : Int) := by
  have h := u_bd m
  obtain ⟨n, hn⟩ := Int.eq_ofNat_of_zero_le h.1
  rw [hn]
  refine ⟨n % 201, Nat.mod_lt _ (by decide), ?_⟩
  rw [show (201 : Int) = ((201 : Nat) : Int) from rfl, ← Int.ofNat_tmod]
  have : n % 201 < 201 := Nat.mod_lt _ (by decide)
  unfold wrap64; omega
/-- None seen. -/
def z201 : Array Value := Array.replicate 201 (.bool false)
theorem Try.info38 : (Try.prog.info? 38).map (fun i => (i.zero, i.size)) = some (some (.agg z201), 201) := by kernel_rfl
theorem zero38 (w : World) : (zeroValue 38).run Try.prog w = .ok (.agg z201) w := (zero_of_info Try.info38).1 w
theorem one201 : z201.all (·.oneCell') = true := by kernel_rfl
theorem size201 : z201.size = 201 := by simp [z201]
theorem store38 (w : World) : (storeCells ⟨w.heap.size, 0, none⟩ z201.toList).run Try.prog (w.alloc (.cells z201 38)) = .ok () (w.alloc (.cells z201 38)) :=
  run_storeCells_new w 38 z201 z201 (by rw [(zero_of_info Try.info38).2, size201]) rfl one201
/-- Which ones were seen. -/
def Seen (w : World) (b : Nat) (l : List Nat) : Prop := (∀ x, x < 201 → w.cell? ⟨b, x, none⟩ = some (.bool (decide (x ∈ l)))) ∧ ∀ x, w.frozen? ⟨b, x, none⟩ = false
theorem not_taken {l : List Nat} {k x : Nat} (h : l.Nodup) (hk : l[k]? = some x) : x ∉ l.take k := by
  intro hm
  obtain ⟨i, hi, e⟩ := List.mem_take_iff_getElem.1 hm
  obtain ⟨hk1, e2⟩ := List.getElem?_eq_some_iff.1 hk
  have := (List.getElem_inj h).1 (e.trans e2.symm)
  omega
theorem seen_none (w : World) : Seen (w.alloc (.cells z201 38)) w.heap.size [] := by
  refine ⟨fun x hx => ?_, fun x => frozen_of_row _ _ x z201 38 (heap_alloc_last w _)⟩
  rw [cell_of_row _ _ x z201 38 (0, 0) (heap_alloc_last w _)]
  simp [z201, hx]
theorem Seen.next {w : World} {b : Nat} {l : List Nat} (h : Seen w b l) (y : Nat) : Seen (w.setCell ⟨b, y, none⟩ (.bool true)) b (l ++ [y]) := by
  refine ⟨fun x hx => ?_, fun x => ?_⟩
  · by_cases e : y = x
    · subst e
      rw [World.cell?_setCell_same w _ _ (h.1 y hx)]; simp
    · rw [World.cell?_setCell_other w _ _ _ (fun h => e (Addr.mk.inj h).2.1), h.1 x hx]
      have e2 : ¬ x = y := fun h => e h.symm
      simp [e2]
  · rw [World.frozen?_setCell]; exact h.2 x
set_option maxHeartbeats 1600000 in
set_option maxRecDepth 100000 in
theorem shuffles_walk (a0 a1 a2 : Int) (w0 : (Lit.int .i64 a0).wf = true) (_ : (Lit.int .i64 a1).wf = true) (w2 : (Lit.int .i64 a2).wf = true) (w : World) :
    Calls Try.prog 6 #[.int .i64 a0, .int .i64 a1, .int .i64 a2] w fun e w' => e = .returned (.bool true) ∧ Below w.heap.size w w' := by
  obtain ⟨n, hn, en⟩ := rem201 a1
  have hni : (n : Int) < 201 := by omega
  have S1 := hid (fun w => shuffle_any a0 (n : Int) (by omega) w)
  rw [Int.toNat_natCast] at S1
  have hx : max ((n : Int) - 1) 0 = ((n - 1 : Nat) : Int) := by omega
  have P := hid (shuf_range n a0 (by omega))
  have hseed := hid (shuf_seed (n - 1) a0 (List.range n) (of_wf_i64 w0).1 (of_wf_i64 w0).2)
  obtain ⟨sd, hsd⟩ : ∃ sd, sd = (shuf (n - 1) a0 (List.range n)).1 := ⟨_, rfl⟩
  obtain ⟨ls, hls⟩ : ∃ ls, ls = (shuf (n - 1) a0 (List.range n)).2 := ⟨_, rfl⟩
  rw [← hsd, ← hls] at S1
  rw [← hls] at P
  rw [← hsd] at hseed
  clear hsd hls w0
  have hz := zero38
  have hs := store38
  go_enter Try.func6, Try.ntmps6
  go_wp2_with fail
  refine (awake_any _).mono ?_; rintro e w' ⟨rfl, N, rfl⟩
  go_wp2_with fail
  rw [en]
  generalize (IntKind.u64.wrap a1).tmod 201 = r1 at *
  refine (S1.out _).mono ?_
  rintro e w1 ⟨ga, gc, rfl, ho, hb⟩
  have O1 := hid ho
  have B1 := hid (Below.rebase (Below.drewN (Below.refl w.heap.size w) _) hb)
  clear ho hb
  go_wp2_with fail
  refine (S1.out _).mono ?_
  rintro e w3 ⟨gb, gd, rfl, ho, hb⟩
  have O2 := hid (own_later O1.out hb)
  have O3 := hid ho
  have B2 := hid (Below.rebase B1.out hb)
  clear ho hb O1 B1
  go_wp2_with fail
  refine (same_any ga gb n gc gd _ _ ls _ (by omega) O2.out O3.out).mono ?_
  rintro e w4 ⟨rfl, hb⟩
  have O4 := hid (own_later O2.out hb)
  have B4 := hid (Below.rebase B2.out hb)
  clear hb O2 O3 B2
  go_wp2_with fail
  all_goals
    refine (skip_any _ _ _).mono ?_
    first
      | rw [show skipZ a0 0 = sd by rw [hseed.out]; congr 1; omega]
      | rw [show skipZ a0 ((n : Int) - 1) = sd by rw [hseed.out]; congr 1; omega]
    rintro e w5 ⟨rfl, rfl⟩
    have B5 := hid (B4.out.alloc B4.out.size (.cells z201 38))
    have O5 := hid (O4.out.alloc (.cells z201 38))
    have G5 := hid (fun g hg => (O4.out.lt g hg).2)
    have N5 := hid (seen_none w5)
    obtain ⟨sb, hsb⟩ : ∃ sb, sb = w5.heap.size := ⟨_, rfl⟩
    have HSB := hid hsb
    rw [← hsb] at G5 N5
    clear O4 B4 hsb
    go_wp2_with fail
    rw [← HSB.out]
    go_loopw [13] (fun i wr => ∃ k : Nat, k ≤ n ∧ i = .int .i64 k ∧ wr.ownsRow w.heap.size 3 1 (.slice ga n gc) n (ls.map iv) ∧ Seen wr sb (ls.take k) ∧ Below w.heap.size w wr) (fun i _ => n - (intOf i).toNat)
    case atStart => exact ⟨0, Nat.zero_le _, rfl, O5.out, N5.out, B5.out⟩
    case round =>
      obtain ⟨k, hk, rfl, ho, hse, hbl⟩ := hrel
      clear O5 N5 B5
      have HO := hid ho
      have HS := hid hse
      have HB := hid hbl
      clear ho hse hbl
      by_cases hlt : k < n
      · first
        | (exfalso; omega)
        | (have HL : Hid (ls.length = n) := by have := P.out.length_eq; show ls.length = n; simpa using this
           obtain ⟨x, hxk⟩ := at_lt ls k (by rw [HL.out]; exact hlt)
           have hxn : x < n := by have := P.out.mem_iff.1 (List.mem_of_getElem? hxk); simpa using this
           have hnot := hid (not_taken (P.out.nodup_iff.2 List.nodup_range) hxk)
           obtain ⟨g, hg0, hg1⟩ := own_some HO.out (by omega)
           subst hg0
           have hgs := hid (G5.out g rfl)
           have c1 : wr.cell? ⟨g, k, none⟩ = some (.int .i64 x) := by rw [HO.out.cellAt k (by omega)]; simp [hxk, iv]
           have c2 : wr.cell? ⟨sb, x, none⟩ = some (.bool false) := by rw [HS.out.1 x (by omega)]; simp [hnot.out]
           have f2 := HS.out.2 x
           have HS2 := hid (HS.out.next x)
           rw [← take_next hxk] at HS2
           have HO2 := hid (ownsRow_setCell_other HO.out (a := ⟨sb, x, none⟩) (fun h => by simp [Value.ownBlock] at h; have := hgs.out; omega) (.bool true))
           have HB2 := hid (HB.out.setCell (p := ⟨sb, x, none⟩) (by show w.heap.size ≤ sb; have := hgs.out; omega) (.bool true))
           clear hxk
           go_wp2_with fail
           go_roundw
           case rel => exact ⟨k + 1, by omega, by go_num, HO2.out, HS2.out, HB2.out⟩
           case measure => simp [intOf]; omega)
      · by_cases hneg : a2 ≤ 0
        · go_wp2_with fail
          refine (draw_neg a0 a2 hneg _).mono ?_; rintro e w' ⟨rfl, rfl⟩
          go_wp2_with fail
          refine (skip_any _ _ _).mono ?_; rw [show skipZ a0 1 = stepZ a0 from rfl]; rintro e w' ⟨rfl, rfl⟩
          go_wp2_with fail
          go_ret
          exact ⟨rfl, HB.out⟩
        · have hpos : 0 < a2 := by omega
          obtain ⟨d0, d1⟩ := draw_bd a0 a2 hpos (of_wf_i64 w2).2
          have DP := hid (fun w => draw_pos a0 a2 hpos (of_wf_i64 w2).2 w)
          obtain ⟨dz, hdz⟩ : ∃ dz, dz = drawZ a0 a2 := ⟨_, rfl⟩
          rw [← hdz] at DP d0 d1
          clear hdz w2
          go_wp2_with fail
          refine (DP.out _).mono ?_; rintro e w' ⟨rfl, M, rfl⟩
          go_wp2_with fail
          refine (skip_any _ _ _).mono ?_; rw [show skipZ a0 1 = stepZ a0 from rfl]; rintro e w' ⟨rfl, rfl⟩
          go_wp2_with fail
          go_ret
          exact ⟨rfl, Below.drewN HB.out _⟩
end Go.Proofs.Ytbealadcnpheiaa
