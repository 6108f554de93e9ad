/- The document's badges: Give. -/
import Derived.Test.YtiebbedpjogjfaaDoorBdCf
namespace Go.Proofs.YtiebbedpjogjfaaDoor.Bd
open Go.RowKit Go.Shelf Go.Maps
section
variable {B : Nat} {W W' : World} {v : Value} {l : Prs} {ub : Nat} {n : Int}
set_option maxHeartbeats 3200000 in
set_option maxRecDepth 100000 in
theorem rgive_ok (h : Rb B W ub v n l) (i g : Int) (hi : I64 i) (hg : I64 g) (h64 : ∀ x ∈ l, I64 x.2.1 ∧ I64 x.2.2) (hl : l.length ≤ 900) (hn : num l (i, g) = none) (h1 : 1 ≤ n) (h2 : n ≤ 1073741824) :
    Calls Tryd.prog 8 #[.pointer (some ⟨ub, 0, none⟩), .agg #[.int .i64 i, .int .i64 g]] W fun e W' => e = .returned (.tuple #[.int .i64 n, .int .i64 0]) ∧ (∃ v', Rb B W' ub v' (n + 1) (ins (n, i, g) l)) ∧ St (fun k => k = ub) W W' := by
  obtain ⟨w1, hw1⟩ : ∃ w1, w1 = W.alloc (.cells #[.int .i64 i, .int .i64 g] 29) := ⟨_, rfl⟩
  have b1 : Below W.heap.size W w1 := by rw [hw1]; exact bAl _ _
  have r1 : w1.heap[W.heap.size]? = some (.cells #[.int .i64 i, .int .i64 g] 29 (0, 0)) := by rw [hw1]; exact heap_alloc_new W _
  have y0 : w1.cell? ⟨W.heap.size, 0, none⟩ = some (.int .i64 i) := cell_blk r1 rfl
  have y1 : w1.cell? ⟨W.heap.size, 1, none⟩ = some (.int .i64 g) := cell_blk r1 rfl
  have R1 := hid r1
  have H := hid (h.later b1)
  have hub : ub < W.heap.size := (h.lt ub (.inl rfl)).2
  have ID : Hid (Calls Tryd.prog 18 #[.pointer (some ⟨ub, 0, none⟩), .agg #[.int .i64 i, .int .i64 g]] w1 fun e w' => e = .returned (.tuple #[.int .i64 0, .bool false]) ∧ Below w1.heap.size w1 w') := by
    have := rid_any H.out i g hi hg h64 (by omega)
    rw [hn] at this
    exact this
  have s1 : IntKind.i64.wrap (n + 1) = n + 1 := wrap_mid (by omega) (by omega)
  have s2 : IntKind.i64.wrap (n + 1 - 1) = n := by rw [show n + 1 - 1 = n by omega]; exact wrap_mid (by omega) (by omega)
  have h2i : ¬ 1073741824 < n := by omega
  have HW1 := hid hw1
  have B1 := hid b1
  clear h hw1 b1 r1 h64 hi hg hn
  go_enter Tryd.func8, Tryd.ntmps8
  go_upto_region 1 with fail
  rw [← HW1.out]
  go_wp2_with fail
  refine ID.out.mono ?_
  rintro e w2 ⟨rfl, hb2⟩
  have B2 := hid hb2
  have H2 := hid (H.out.later hb2)
  have c1 := H2.out.c1
  have KK : Hid (∀ W', Below w2.heap.size w2 W' → W'.cell? ⟨ub, 1, none⟩ = some (.int .i64 n) ∧ W'.cell? ⟨W.heap.size, 0, none⟩ = some (.int .i64 i) ∧ W'.cell? ⟨W.heap.size, 1, none⟩ = some (.int .i64 g)) := fun W' hb => by
    have ra := blk_seen (B2.out.trans (hb.mono B2.out.size)) (Nat.le_refl _) R1.out
    exact ⟨(H2.out.later hb).c1, cell_blk ra rfl, cell_blk ra rfl⟩
  have AD : Hid (∀ W', Below w2.heap.size w2 W' → Calls Tryd.prog 29 #[.pointer (some ⟨ub, 0, none⟩), .int .i64 n, .agg #[.int .i64 i, .int .i64 g]] W' fun e w' => e = .returned (.tuple #[]) ∧ (∃ v', Rb B w' ub v' n (ins (n, i, g) l)) ∧ St (fun k => k = ub) w2 w' ∧ (w'.cell? ⟨ub, 1, none⟩ = some (.int .i64 n) ∧ w'.cell? ⟨W.heap.size, 0, none⟩ = some (.int .i64 i) ∧ w'.cell? ⟨W.heap.size, 1, none⟩ = some (.int .i64 g))) := fun W' hb => (add_any (H2.out.later hb) n i g hl).mono fun _ _ ⟨q1, ⟨v', q2⟩, q3⟩ => by
    have ra := q3.at (blk_seen (B2.out.trans (hb.mono B2.out.size)) (Nat.le_refl _) R1.out) (fun e => by omega)
    exact ⟨q1, ⟨v', q2⟩, (St.of_below hb).trans q3 fun x _ e => e, q2.c1, cell_blk ra rfl, cell_blk ra rfl⟩
  clear ID hb2 y0 y1
  go_upto_region 6 with fail
  go_region_held3 (fun W' => W'.cell? ⟨ub, 1, none⟩ = some (.int .i64 n) ∧ W'.cell? ⟨W.heap.size, 0, none⟩ = some (.int .i64 i) ∧ W'.cell? ⟨W.heap.size, 1, none⟩ = some (.int .i64 g))
    (first | exact KK.out _ (Below.refl _ _).drew | exact KK.out _ (Below.refl _ _) | exact hk5)
    (first | (go_at_call 29; refine (AD.out _ (by first | exact (Below.refl _ _).drew | exact Below.refl _ _)).mono ?_; rintro e w5 ⟨rfl, hg5, hs5, hk5⟩))
  obtain ⟨v5, g5⟩ := hg5
  have c5 := g5.c1
  have f5 := blk_free g5.box 1
  have s6 := St.setCell (S := fun k => k = ub) (a := w5) (p := ⟨ub, 1, none⟩) (.int .i64 (n + 1)) rfl
  have x6 : (w5.setCell ⟨ub, 1, none⟩ (.int .i64 (n + 1))).heap[ub]? = some (.cells #[v5, .int .i64 (n + 1)] 54 (0, 0)) := by
    have := heap_setCell_same w5 ub 1 _ _ (.int .i64 (n + 1)) g5.box
    simpa using this
  have G6 : Hid (Rb B (w5.setCell ⟨ub, 1, none⟩ (.int .i64 (n + 1))) ub v5 (n + 1) (ins (n, i, g) l)) := ⟨x6, g5.row.kept s6 fun x hx e => g5.ne (by rw [hx, e]), g5.low, g5.ne⟩
  have bw := B1.out.trans (B2.out.mono B1.out.size)
  have S6 : Hid (St (fun k => k = ub) W (w5.setCell ⟨ub, 1, none⟩ (.int .i64 (n + 1)))) := ((St.of_below bw).trans hs5 fun x _ e => e).trans s6 fun x _ e => e
  have c6 : (w5.setCell ⟨ub, 1, none⟩ (.int .i64 (n + 1))).cell? ⟨ub, 1, none⟩ = some (.int .i64 (n + 1)) := cell_blk x6 rfl
  clear g5 s6 x6 bw hs5 hk5 KK AD
  go_wp2_with fail
  exact bodyPost_ret (v := .tuple #[.int .i64 n, .int .i64 0]) (by simp [results, Tryd.results8, go_sem]) rfl ⟨rfl, ⟨_, G6.out⟩, S6.out⟩
end
end Go.Proofs.YtiebbedpjogjfaaDoor.Bd
