/- The reference's draws and shuffle. -/
import Derived.Test.YtbealadcnpheiaaDy
namespace Go.Proofs.Ytbealadcnpheiaa
open Go.ChangeShapes Go.WideShapes Go.ChangeAt Go.RowKit
def rstepZ (s : Int) : Int := wrap64 (IntKind.u64.wrap (IntKind.u64.wrap s + 11400714819323198485))
theorem rstep_eq (s : Int) : rstepZ s = stepZ s := by
  unfold stepZ; rw [skipZ_eq]; unfold rstepZ; rw [s_u]; unfold wrap64; simp only [IntKind.wrap_u64]; omega
set_option maxHeartbeats 400000 in
theorem rstep_raw (z : Int) (w : World) :
    Calls Try.prog 19 #[.int .i64 z] w fun e w' => e = .returned (.int .i64 (rstepZ z)) ∧ w' = w := by
  go_enter Try.func19, Try.ntmps19
  go_wp2
  go_ret
  exact ⟨rfl, rfl⟩
theorem rstep_any (z : Int) (w : World) :
    Calls Try.prog 19 #[.int .i64 z] w fun e w' => e = .returned (.int .i64 (stepZ z)) ∧ w' = w := by
  rw [← rstep_eq]; exact rstep_raw z w
set_option maxHeartbeats 400000 in
theorem rmix_any (z : Int) (w : World) :
    Calls Try.prog 20 #[.int .u64 z] w fun e w' => e = .returned (.int .u64 (mixZ z)) ∧ w' = w := by
  go_enter Try.func20, Try.ntmps20
  go_wp2
  go_ret
  exact ⟨rfl, rfl⟩
set_option maxHeartbeats 400000 in
theorem rnext_any (z : Int) (w : World) :
    Calls Try.prog 9 #[.int .i64 z] w fun e w' => e = .returned (.tuple #[.int .i64 (stepZ z), .int .u64 (drawnZ z)]) ∧ w' = w := by
  go_enter Try.func9, Try.ntmps9
  go_wp2_with fail
  refine (rstep_any _ _).mono ?_; rintro e w' ⟨rfl, rfl⟩
  go_wp2_with fail
  refine (rstep_any _ _).mono ?_; rintro e w' ⟨rfl, rfl⟩
  go_wp2_with fail
  refine (rmix_any _ _).mono ?_; rintro e w' ⟨rfl, rfl⟩
  go_wp2_with fail
  go_ret2
  exact ⟨rfl, rfl⟩
set_option maxHeartbeats 400000 in
theorem rdraw_pos (z b : Int) (hb : 0 < b) (hb1 : b ≤ 9223372036854775807) (w : World) :
    Calls Try.prog 11 #[.int .i64 z, .int .i64 b] w fun e w' => e = .returned (.tuple #[.int .i64 (stepZ z), .int .i64 (drawZ z b)]) ∧ ∃ n, w' = w.drewN n := by
  go_enter Try.func11, Try.ntmps11
  go_wp2_with fail
  refine (rnext_any _ _).mono ?_; rintro e w' ⟨rfl, rfl⟩
  go_wp2_with fail
  go_quiet (fail)
  go_wp2
  go_ret2
  exact ⟨rfl, _, rfl⟩
set_option maxHeartbeats 400000 in
theorem rdraw_neg (z b : Int) (hb : b ≤ 0) (w : World) :
    Calls Try.prog 11 #[.int .i64 z, .int .i64 b] w fun e w' => e = .returned (.tuple #[.int .i64 (stepZ z), .int .i64 0]) ∧ w' = w := by
  go_enter Try.func11, Try.ntmps11
  go_wp2_with fail
  refine (rnext_any _ _).mono ?_; rintro e w' ⟨rfl, rfl⟩
  go_wp2_with fail
  go_ret2
  exact ⟨rfl, rfl⟩
set_option maxHeartbeats 1600000 in
set_option maxRecDepth 100000 in
theorem rshuffle_any (s b : Int) (hb : b ≤ 200) (w : World) :
    Calls Try.prog 13 #[.int .i64 s, .int .i64 b] w fun e w' => ∃ ga gc, e = .returned (.tuple #[.int .i64 (shuf (b.toNat - 1) s (List.range b.toNat)).1, .slice ga b.toNat gc]) ∧ w'.ownsRow w.heap.size 3 1 (.slice ga b.toNat gc) b.toNat ((shuf (b.toNat - 1) s (List.range b.toNat)).2.map iv) ∧ Below w.heap.size w w' := by
  obtain ⟨n, hn⟩ : ∃ n, n = b.toNat := ⟨_, rfl⟩
  rw [← hn]
  have hn1 : n ≤ 200 := by omega
  have HN := hid hn
  have e1 := hid ((Below.refl w.heap.size w).alloc (Nat.le_refl _) (.cells #[] 3))
  have o1 := hid (lit_row w #[] 3 (by simp))
  clear hn
  go_enter Try.func13, Try.ntmps13
  go_wp2_with fail
  go_loopw [6, 7] (fun v i wr => ∃ (k : Nat) (ga : Option Addr) (gc : Nat) (y : List Nat), k ≤ n ∧ i = .int .i64 k ∧ v = .slice ga y.length gc ∧ y = List.range k ∧ wr.ownsRow w.heap.size 3 1 (.slice ga y.length gc) y.length (y.map iv) ∧ Below w.heap.size w wr) (fun _ i _ => n - (intOf i).toNat)
  case atStart => exact ⟨0, some ⟨w.heap.size, 0, none⟩, 0, [], Nat.zero_le _, rfl, rfl, rfl, o1.out, e1.out⟩
  case round =>
    obtain ⟨k, ga, gc, y, hk, rfl, rfl, hy, hown, hbl⟩ := hrel
    have HY := hid hy
    have HO := hid hown
    have HB := hid hbl
    have hyl : Hid (y.length = k) := by show y.length = k; rw [hy]; simp
    clear hy hown hbl
    by_cases hlt : k < n
    · have hkb : (k : Int) < b := by have := HN.out; omega
      go_wp2_with (at_builtin; refine wpList_int _ rfl (.tmp 22) (.tmp 24) rfl w.heap.size _ y rfl ?_ wr.heap.size k rfl ?_ ?_ ?_ ?_; exact HO.out.alloc _; exact new_cell _ _ _; rw [hyl.out]; omega; exact (HB.out.alloc HB.out.size _).size; intro g1 c1 y1 w2 h2 o2 b2)
      go_roundw
      case rel => exact ⟨k + 1, g1, c1, y1, by omega, by go_num, rfl, by rw [h2.out, HY.out, range_snoc], o2.out, (HB.out.alloc HB.out.size _).trans b2.out⟩
      case measure => simp [intOf]; omega
    · have hkb : ¬ (k : Int) < b := by have := HN.out; omega
      obtain ⟨gl, hgl⟩ : ∃ gl, gl = y.length := ⟨_, rfl⟩
      have e : Hid (gl = n) := by show gl = n; rw [hgl, hyl.out]; omega
      have F : Hid (wr.ownsRow w.heap.size 3 1 (.slice ga n gc) n ((List.range n).map iv)) := by
        have h1 := HO.out
        have h2 := e.out
        have h3 : y = List.range n := by rw [HY.out]; congr 1; omega
        rw [← hgl, h2, h3] at h1
        exact h1
      rw [← hgl, e.out]
      clear e hgl HO hyl HY
      go_wp2_with fail
      go_loopw [0, 8, 9, 10, 11] (fun sv i _ _ _ wr => ∃ (S : Int) (L : List Nat), sv = .int .i64 S ∧ wr.ownsRow w.heap.size 3 1 (.slice ga n gc) n (L.map iv) ∧ Below w.heap.size w wr ∧
          ((n = 0 ∧ i = .int .i64 (-1) ∧ (S, L) = shuf (n - 1) s (List.range n)) ∨ ∃ m : Nat, m < n ∧ i = .int .i64 m ∧ shuf m S L = shuf (n - 1) s (List.range n))) (fun _ i _ _ _ _ => (intOf i).toNat)
      case atStart =>
        refine ⟨s, List.range n, rfl, F.out, HB.out, ?_⟩
        rcases Nat.eq_zero_or_pos n with h | h
        · exact .inl ⟨h, by rw [h]; rfl, by rw [h]; rfl⟩
        · exact .inr ⟨n - 1, by omega, by congr 1; omega, rfl⟩
      case round =>
        obtain ⟨S, L, rfl, ho, hbl, hi⟩ := hrel
        clear F HB
        have HO := hid ho
        have HB := hid hbl
        clear ho hbl
        rcases hi with ⟨h0, rfl, he⟩ | ⟨m, hm1, rfl, he⟩
        · have HE := hid he
          clear he
          go_wp2_with fail
          go_ret2
          exact ⟨ga, gc, by rw [← HE.out]; rfl, by rw [← HE.out]; exact HO.out, HB.out⟩
        · have HE := hid he
          clear he
          rcases Nat.eq_zero_or_pos m with h0 | h0
          · subst h0
            go_wp2_with fail
            go_ret2
            exact ⟨ga, gc, by rw [← HE.out]; rfl, by rw [← HE.out]; exact HO.out, HB.out⟩
          · have HL : Hid (L.length = n) := by have := HO.out.1; show L.length = n; simpa using this
            obtain ⟨hd, hd2⟩ := drawN_eq S (m + 1) (by omega) (by omega)
            have HM := hid (show shuf m S L = shuf (m - 1) (stepZ S) (swp L m (drawN S (m + 1))) by
              obtain ⟨q, rfl⟩ : ∃ q, m = q + 1 := ⟨m - 1, by omega⟩
              rfl)
            have HD := hid hd
            obtain ⟨j, hj⟩ : ∃ j, j = drawN S (m + 1) := ⟨_, rfl⟩
            rw [← hj] at HM HD hd2
            obtain ⟨x, hx⟩ := at_lt L m (by rw [HL.out]; exact hm1)
            obtain ⟨y, hy⟩ := at_lt L j (by rw [HL.out]; omega)
            obtain ⟨g, rfl, hg⟩ := own_some HO.out (by omega)
            have c1 : Hid (wr.cell? ⟨g, m, none⟩ = some (.int .i64 x)) := by show wr.cell? ⟨g, m, none⟩ = _; rw [HO.out.cellAt m (by omega)]; simp [hx, iv]
            have c2 : Hid (wr.cell? ⟨g, j, none⟩ = some (.int .i64 y)) := by show wr.cell? ⟨g, j, none⟩ = _; rw [HO.out.cellAt j (by omega)]; simp [hy, iv]
            have f1 := hid (HO.out.frozenAt m)
            have f2 := hid (HO.out.frozenAt j)
            have NX := hid (own_swp HO.out hx hy)
            clear hx hy hd hj
            go_wp2_with fail
            refine (rdraw_pos _ _ (by omega) (by omega) _).mono ?_
            rw [show ((m : Int) + 1) = ((m + 1 : Nat) : Int) by omega, HD.out]
            rintro e w' ⟨rfl, N, rfl⟩
            have c1 := c1.out
            have c2 := c2.out
            have f1 := f1.out
            have f2 := f2.out
            have B2 := hid (((Below.drewN HB.out N).setCell (p := ⟨g, m, none⟩) hg.1 (.int .i64 y)).setCell (p := ⟨g, j, none⟩) hg.1 (.int .i64 x))
            rcases Nat.lt_or_ge j m with hjm | hjm
            · go_wp2_with fail
              go_roundw
              case rel =>
                refine ⟨stepZ S, swp L m j, rfl, NX.out, B2.out, .inr ⟨m - 1, by omega, by congr 1; omega, by rw [← HM.out, HE.out]⟩⟩
              case measure => simp [intOf]; omega
            · obtain rfl : j = m := by omega
              obtain rfl : x = y := by have h := c1.symm.trans c2; simp at h; omega
              clear c2 f2
              go_wp2_with fail
              go_roundw
              case rel =>
                refine ⟨stepZ S, swp L j j, rfl, NX.out, B2.out, .inr ⟨j - 1, by omega, by congr 1; omega, by rw [← HM.out, HE.out]⟩⟩
              case measure => simp [intOf]; omega
end Go.Proofs.Ytbealadcnpheiaa
