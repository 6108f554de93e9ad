/- Badges: Pin, that is taken, and that finds what there is. -/
import Derived.Test.YtiebbedpjogjfaaDoorBdBk
namespace Go.Proofs.YtiebbedpjogjfaaDoor.Bd
open Go.RowKit Go.Shelf Go.Maps
theorem top_nil {Ad : Nat → Addr} {n d : Nat} {W : World} {v : Value} (h : Top Ad n W d v []) : v = .nilIface := by
  rcases h with ⟨h, -⟩ | ⟨p, h, -⟩ | ⟨b, vs, -, h, hs⟩
  · exact h
  · cases h
  · have e : vs = [] := List.map_eq_nil_iff.1 h.symm
    subst e
    exact absurd hs.two (by simp)
section
variable {Ad : Nat → Addr} {B : Nat} {W : World} {bb ob nb : Nat} {n : Int} {l : Prs}
set_option maxHeartbeats 3200000 in
set_option maxRecDepth 100000 in
theorem pin_ok (h : Bg B W bb ob nb n l) (id i g : Int) (hi : I64 i) (hg : I64 g) (h1 : 1 ≤ id) (h2 : id < n) (hw : who l id = none) (hn : num l (i, g) = none) :
    Calls Tryd.prog 9 #[.pointer (some ⟨bb, 0, none⟩), .int .i64 id, .agg #[.int .i64 i, .int .i64 g]] W fun e W' => e = .returned .nilIface ∧ Bg B W' bb ob nb n (ins (id, i, g) l) ∧ St (fun k => Ft bb ob nb k) W W' := by
  obtain ⟨w1, hw1⟩ : ∃ w1, w1 = W.alloc (.cells #[.int .i64 i, .int .i64 g] 29) := ⟨_, rfl⟩
  have b1 : Below W.heap.size W w1 := by rw [hw1]; exact bAl _ _
  have r1 : w1.heap[W.heap.size]? = some (.cells #[.int .i64 i, .int .i64 g] 29 (0, 0)) := by rw [hw1]; exact heap_alloc_new W _
  have hnx := h.ok.next
  have hid' : I64 id := I64_mid (by omega) (by omega)
  have hok2 : okP n (ins (id, i, g) l) := h.ok.add (by omega) ⟨h1, h2⟩ hi hg hw hn
  have hB := h.later b1
  have c2 := hB.c2
  have h1i : ¬ id < 1 := by omega
  have h2i : ¬ id ≥ n := by omega
  have KK : Hid (∀ W', Below w1.heap.size w1 W' → W'.cell? ⟨W.heap.size, 0, none⟩ = some (.int .i64 i) ∧ W'.cell? ⟨W.heap.size, 1, none⟩ = some (.int .i64 g)) := fun W' hb => ⟨cell_blk (blk_seen hb (Nat.le_refl _) r1) rfl, cell_blk (blk_seen hb (Nat.le_refl _) r1) rfl⟩
  have C23 : Hid (∀ W', Below w1.heap.size w1 W' → Calls Tryd.prog 31 #[.pointer (some ⟨bb, 0, none⟩), .int .i64 id] W' fun e w' => e = .returned .nilIface ∧ Below w1.heap.size w1 w') := fun W' hb => (uno_none (hB.later hb) id hid' hw).mono fun e w' ⟨q1, q2⟩ => ⟨q1, hb.trans (q2.mono hb.size)⟩
  have C20 : Hid (∀ W', Below w1.heap.size w1 W' → Calls Tryd.prog 27 #[.pointer (some ⟨bb, 0, none⟩), .agg #[.int .i64 i, .int .i64 g]] W' fun e w' => e = .returned .nilIface ∧ Below w1.heap.size w1 w') := fun W' hb => (unn_none (hB.later hb) i g hi hg hn).mono fun e w' ⟨q1, q2⟩ => ⟨q1, hb.trans (q2.mono hb.size)⟩
  have C22 : Hid (∀ W', Below w1.heap.size w1 W' → Calls Tryd.prog 30 #[.slice (some ⟨W'.heap.size, 0, none⟩) 2 2] (W'.alloc (.cells #[.nilIface, .nilIface] 33)) fun e w' => e = .returned .nilIface ∧ Below w1.heap.size w1 w') := fun W' hb => (all_two (Ad := fun _ => ⟨0, 0, none⟩) W' .nilIface .nilIface [] [] 0 Top.empty Top.empty (by simp)).mono fun e w' ⟨v', q1, q2, q3⟩ => by
    obtain rfl := top_nil q2
    exact ⟨q1, hb.trans (q3.mono hb.size)⟩
  have JN : Hid (∀ W', Below w1.heap.size w1 W' → Calls Tryd.prog 28 #[.pointer (some ⟨bb, 0, none⟩), .int .i64 id, .agg #[.int .i64 i, .int .i64 g]] W' fun e W2 => e = .returned (.tuple #[]) ∧ Bg B W2 bb ob nb n (ins (id, i, g) l) ∧ St (fun k => Ft bb ob nb k) W' W2) := fun W' hb => join_ok (hB.later hb) h.ok id i g hid' hi hg hok2 hw hn
  have HW1 := hid hw1
  have B1 := hid b1
  clear h hi hg hw hn hw1 b1 r1 hid' hok2 hB hnx
  go_enter Tryd.func9, Tryd.ntmps9
  go_upto_region 1 with fail
  rw [← HW1.out]
  go_upto_region 5 with fail
  clear c2 h1i h2i
  go_region_held3 (fun W' => W'.cell? ⟨W.heap.size, 0, none⟩ = some (.int .i64 i) ∧ W'.cell? ⟨W.heap.size, 1, none⟩ = some (.int .i64 g))
    (first | exact KK.out _ (by assumption) | exact KK.out _ (Below.refl _ _).drew | exact KK.out _ (Below.refl _ _) | exact KK.out _ (hb6.alloc hb6.size _))
    (first
      | (go_at_call 31; refine (C23.out _ (by first | assumption | exact (Below.refl _ _).drew)).mono ?_; rintro e w5 ⟨rfl, hb5⟩)
      | (go_at_call 27; refine (C20.out _ (by first | assumption | exact (Below.refl _ _).drew)).mono ?_; rintro e w6 ⟨rfl, hb6⟩)
      | (go_at_call 30; refine (C22.out _ (by assumption)).mono ?_; rintro e w7 ⟨rfl, hb7⟩))
  have JO := hid (JN.out w7 hb7)
  have B7 := hid (B1.out.trans (hb7.mono B1.out.size))
  obtain ⟨d0, d1⟩ := KK.out w7 hb7
  clear KK C23 C20 C22 JN hb7
  go_wp2_with fail
  refine JO.out.mono ?_
  rintro e w8 ⟨rfl, h8, s8⟩
  have H8 := hid h8
  have S8 : Hid (St (fun k => Ft bb ob nb k) W w8) := (St.of_below (S := fun k => Ft bb ob nb k) B7.out).trans s8 fun _ _ q => q
  clear h8 s8 JO d0 d1
  go_wp2_with fail
  go_ret
  exact ⟨rfl, H8.out, S8.out⟩
end
end Go.Proofs.YtiebbedpjogjfaaDoor.Bd
