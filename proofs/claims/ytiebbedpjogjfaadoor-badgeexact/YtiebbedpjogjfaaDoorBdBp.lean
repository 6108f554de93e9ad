/- Badges: Pin that finds what there is; whatever is done they are badges. -/
import Derived.Test.YtiebbedpjogjfaaDoorBdBn
namespace Go.Proofs.YtiebbedpjogjfaaDoor.Bd
open Go.RowKit Go.Shelf Go.Maps
section
variable {Ad : Nat → Addr} {B : Nat} {W : World} {bb ob nb : Nat} {n : Int} {l : Prs}
theorem top_some {d m : Nat} {W : World} {v : Value} {ls : List (List ByteArray × Nat)} (h : Top Ad m W d v ls) (hne : ls ≠ []) : ∃ t q, v = .iface t q := by
  rcases h with ⟨-, h⟩ | ⟨p, -, h⟩ | ⟨b, vs, h, -, -⟩
  · exact absurd h hne
  · obtain ⟨t, q, e, -⟩ := h.1.shape
    exact ⟨t, q, e⟩
  · exact ⟨_, _, h⟩
set_option maxHeartbeats 3200000 in
set_option maxRecDepth 100000 in
theorem pin_sb (h : Bg B W bb ob nb n l) (id i g : Int) (h1 : 1 ≤ id) (h2 : id < n) (l1 l2 : List (List ByteArray × Nat)) (hll : (l1 : List (List ByteArray × Nat)).length + (l2 : List (List ByteArray × Nat)).length ≤ 1000) (hne : l1 ++ l2 ≠ [])
    (U1 : ∀ W', Bg B W' bb ob nb n l → Below W.heap.size W W' → Calls Tryd.prog 31 #[.pointer (some ⟨bb, 0, none⟩), .int .i64 id] W' fun e w' => ∃ t q, e = .returned (.iface t q) ∧ Top Ad w'.heap.size w' 1 (.iface t q) l1 ∧ Below W'.heap.size W' w')
    (U2 : ∀ W', Bg B W' bb ob nb n l → Below W.heap.size W W' → Calls Tryd.prog 27 #[.pointer (some ⟨bb, 0, none⟩), .agg #[.int .i64 i, .int .i64 g]] W' fun e w' => ∃ t q, e = .returned (.iface t q) ∧ Top Ad w'.heap.size w' 1 (.iface t q) l2 ∧ Below W'.heap.size W' w') :
    Calls Tryd.prog 9 #[.pointer (some ⟨bb, 0, none⟩), .int .i64 id, .agg #[.int .i64 i, .int .i64 g]] W fun e W' => ∃ b s t q, e = .returned (.iface 81 (.pointer (some ⟨b, 0, none⟩))) ∧ W'.heap[b]? = some (.cells #[.string s, .iface t q] 83 (0, 0)) ∧ Top Ad W'.heap.size W' 1 (.iface t q) (l1 ++ l2) ∧ Below W.heap.size W W' := by
  obtain ⟨w1, hw1⟩ : ∃ w1, w1 = W.alloc (.cells #[.int .i64 i, .int .i64 g] 29) := ⟨_, rfl⟩
  have b1 : Below W.heap.size W w1 := by rw [hw1]; exact bAl _ _
  have r1 : w1.heap[W.heap.size]? = some (.cells #[.int .i64 i, .int .i64 g] 29 (0, 0)) := by rw [hw1]; exact heap_alloc_new W _
  have hB := h.later b1
  have c2 := hB.c2
  have h1i : ¬ id < 1 := by omega
  have h2i : ¬ id ≥ n := by omega
  have KK : Hid (∀ W', Below w1.heap.size w1 W' → W'.cell? ⟨W.heap.size, 0, none⟩ = some (.int .i64 i) ∧ W'.cell? ⟨W.heap.size, 1, none⟩ = some (.int .i64 g)) := fun W' hb => ⟨cell_blk (blk_seen hb (Nat.le_refl _) r1) rfl, cell_blk (blk_seen hb (Nat.le_refl _) r1) rfl⟩
  have C23 : Hid (∀ W', Below w1.heap.size w1 W' → Calls Tryd.prog 31 #[.pointer (some ⟨bb, 0, none⟩), .int .i64 id] W' fun e w' => ∃ t q, e = .returned (.iface t q) ∧ Top Ad w'.heap.size w' 1 (.iface t q) l1 ∧ Below w1.heap.size w1 w') := fun W' hb => (U1 W' (hB.later hb) (b1.trans (hb.mono b1.size))).mono fun _ _ ⟨t, q, q1, q2, q3⟩ => ⟨t, q, q1, q2, hb.trans (q3.mono hb.size)⟩
  have C20 : Hid (∀ W', Below w1.heap.size w1 W' → Calls Tryd.prog 27 #[.pointer (some ⟨bb, 0, none⟩), .agg #[.int .i64 i, .int .i64 g]] W' fun e w' => ∃ t q, e = .returned (.iface t q) ∧ Top Ad w'.heap.size w' 1 (.iface t q) l2 ∧ Below W'.heap.size W' w' ∧ Below w1.heap.size w1 w') := fun W' hb => (U2 W' (hB.later hb) (b1.trans (hb.mono b1.size))).mono fun _ _ ⟨t, q, q1, q2, q3⟩ => ⟨t, q, q1, q2, q3, hb.trans (q3.mono hb.size)⟩
  have C22 : Hid (∀ W' t5 q5 t6 q6, Top Ad W'.heap.size W' 1 (.iface t5 q5) l1 → Top Ad W'.heap.size W' 1 (.iface t6 q6) l2 → Below w1.heap.size w1 W' → Calls Tryd.prog 30 #[.slice (some ⟨W'.heap.size, 0, none⟩) 2 2] (W'.alloc (.cells #[.iface t5 q5, .iface t6 q6] 33)) fun e w' => ∃ t q, e = .returned (.iface t q) ∧ Top Ad w'.heap.size w' 1 (.iface t q) (l1 ++ l2) ∧ Below w1.heap.size w1 w') := fun W' t5 q5 t6 q6 h5 h6 hb => (all_two W' (.iface t5 q5) (.iface t6 q6) l1 l2 1 h5 h6 hll).mono fun _ _ ⟨v', q1, q2, q3⟩ => by
    obtain ⟨t, q, rfl⟩ := top_some q2 hne
    exact ⟨t, q, q1, q2, hb.trans (q3.mono hb.size)⟩
  have HW1 := hid hw1
  have B1 := hid b1
  clear h hw1 b1 r1 hB U1 U2 hll hne
  go_enter Tryd.func9, Tryd.ntmps9
  go_upto_region 1 with fail
  rw [← HW1.out]
  go_upto_region 5 with fail
  clear c2 h1i h2i
  go_region_held3 (fun W' => W'.cell? ⟨W.heap.size, 0, none⟩ = some (.int .i64 i) ∧ W'.cell? ⟨W.heap.size, 1, none⟩ = some (.int .i64 g))
    (first | exact KK.out _ (by assumption) | exact KK.out _ (Below.refl _ _).drew | exact KK.out _ (Below.refl _ _) | exact KK.out _ (hb6.alloc hb6.size _))
    (first
      | (go_at_call 31; refine (C23.out _ (by first | assumption | exact (Below.refl _ _).drew)).mono ?_; rintro e w5 ⟨t5, q5, rfl, ht5, hb5⟩)
      | (go_at_call 27; refine (C20.out _ (by first | assumption | exact (Below.refl _ _).drew)).mono ?_; rintro e w6 ⟨t6, q6, rfl, ht6, hl6, hb6⟩)
      | (go_at_call 30; refine (C22.out _ _ _ _ _ (ht5.later hl6) ht6 (by assumption)).mono ?_; rintro e w7 ⟨t7, q7, rfl, ht7, hb7⟩))
  have T7 := hid ht7
  have B7 := hid (B1.out.trans (hb7.mono B1.out.size))
  have AC := hid (fun str => at_some str t7 q7 w7)
  clear KK C23 C20 C22 hb7 ht7 ht5 ht6 hl6
  go_wp2_with fail
  refine (AC.out _).mono ?_
  rintro e w8 ⟨rfl, hw8⟩
  have b8 : Below w7.heap.size w7 w8 := by rw [hw8]; exact bAl _ _
  have R8 : Hid (∃ s, w8.heap[w7.heap.size]? = some (.cells #[.string s, .iface t7 q7] 83 (0, 0))) := ⟨_, by rw [hw8]; exact heap_alloc_new w7 _⟩
  have T8 := hid (T7.out.later b8)
  have B8 := hid (B7.out.trans (b8.mono B7.out.size))
  clear AC hw8 b8
  go_wp2_with fail
  go_ret
  obtain ⟨s, hs⟩ := R8.out
  exact ⟨w7.heap.size, s, t7, q7, rfl, hs, T8.out, B8.out⟩
set_option maxHeartbeats 3200000 in
set_option maxRecDepth 100000 in
theorem pin_so (h : Bg B W bb ob nb n l) (id i g : Int) (h1 : 1 ≤ id) (h2 : id < n) (l1 : List (List ByteArray × Nat)) (hll : (l1 : List (List ByteArray × Nat)).length + ([] : List (List ByteArray × Nat)).length ≤ 1000) (hne : l1 ≠ [])
    (U1 : ∀ W', Bg B W' bb ob nb n l → Below W.heap.size W W' → Calls Tryd.prog 31 #[.pointer (some ⟨bb, 0, none⟩), .int .i64 id] W' fun e w' => ∃ t q, e = .returned (.iface t q) ∧ Top Ad w'.heap.size w' 1 (.iface t q) l1 ∧ Below W'.heap.size W' w')
    (U2 : ∀ W', Bg B W' bb ob nb n l → Below W.heap.size W W' → Calls Tryd.prog 27 #[.pointer (some ⟨bb, 0, none⟩), .agg #[.int .i64 i, .int .i64 g]] W' fun e w' => e = .returned .nilIface ∧ Below W'.heap.size W' w') :
    Calls Tryd.prog 9 #[.pointer (some ⟨bb, 0, none⟩), .int .i64 id, .agg #[.int .i64 i, .int .i64 g]] W fun e W' => ∃ b s t q, e = .returned (.iface 81 (.pointer (some ⟨b, 0, none⟩))) ∧ W'.heap[b]? = some (.cells #[.string s, .iface t q] 83 (0, 0)) ∧ Top Ad W'.heap.size W' 1 (.iface t q) (l1) ∧ Below W.heap.size W W' := by
  obtain ⟨w1, hw1⟩ : ∃ w1, w1 = W.alloc (.cells #[.int .i64 i, .int .i64 g] 29) := ⟨_, rfl⟩
  have b1 : Below W.heap.size W w1 := by rw [hw1]; exact bAl _ _
  have r1 : w1.heap[W.heap.size]? = some (.cells #[.int .i64 i, .int .i64 g] 29 (0, 0)) := by rw [hw1]; exact heap_alloc_new W _
  have hB := h.later b1
  have c2 := hB.c2
  have h1i : ¬ id < 1 := by omega
  have h2i : ¬ id ≥ n := by omega
  have KK : Hid (∀ W', Below w1.heap.size w1 W' → W'.cell? ⟨W.heap.size, 0, none⟩ = some (.int .i64 i) ∧ W'.cell? ⟨W.heap.size, 1, none⟩ = some (.int .i64 g)) := fun W' hb => ⟨cell_blk (blk_seen hb (Nat.le_refl _) r1) rfl, cell_blk (blk_seen hb (Nat.le_refl _) r1) rfl⟩
  have C23 : Hid (∀ W', Below w1.heap.size w1 W' → Calls Tryd.prog 31 #[.pointer (some ⟨bb, 0, none⟩), .int .i64 id] W' fun e w' => ∃ t q, e = .returned (.iface t q) ∧ Top Ad w'.heap.size w' 1 (.iface t q) l1 ∧ Below w1.heap.size w1 w') := fun W' hb => (U1 W' (hB.later hb) (b1.trans (hb.mono b1.size))).mono fun _ _ ⟨t, q, q1, q2, q3⟩ => ⟨t, q, q1, q2, hb.trans (q3.mono hb.size)⟩
  have C20 : Hid (∀ W', Below w1.heap.size w1 W' → Calls Tryd.prog 27 #[.pointer (some ⟨bb, 0, none⟩), .agg #[.int .i64 i, .int .i64 g]] W' fun e w' => e = .returned .nilIface ∧ Below W'.heap.size W' w' ∧ Below w1.heap.size w1 w') := fun W' hb => (U2 W' (hB.later hb) (b1.trans (hb.mono b1.size))).mono fun _ _ ⟨q1, q3⟩ => ⟨q1, q3, hb.trans (q3.mono hb.size)⟩
  have C22 : Hid (∀ W' t5 q5, Top Ad W'.heap.size W' 1 (.iface t5 q5) l1 → Below w1.heap.size w1 W' → Calls Tryd.prog 30 #[.slice (some ⟨W'.heap.size, 0, none⟩) 2 2] (W'.alloc (.cells #[.iface t5 q5, .nilIface] 33)) fun e w' => ∃ t q, e = .returned (.iface t q) ∧ Top Ad w'.heap.size w' 1 (.iface t q) (l1) ∧ Below w1.heap.size w1 w') := fun W' t5 q5 h5 hb => (all_two W' (.iface t5 q5) .nilIface l1 [] 1 h5 Top.empty hll).mono fun _ _ ⟨v', q1, q2, q3⟩ => by
    rw [List.append_nil] at q2
    obtain ⟨t, q, rfl⟩ := top_some q2 hne
    exact ⟨t, q, q1, q2, hb.trans (q3.mono hb.size)⟩
  have HW1 := hid hw1
  have B1 := hid b1
  clear h hw1 b1 r1 hB U1 U2 hll hne
  go_enter Tryd.func9, Tryd.ntmps9
  go_upto_region 1 with fail
  rw [← HW1.out]
  go_upto_region 5 with fail
  clear c2 h1i h2i
  go_region_held3 (fun W' => W'.cell? ⟨W.heap.size, 0, none⟩ = some (.int .i64 i) ∧ W'.cell? ⟨W.heap.size, 1, none⟩ = some (.int .i64 g))
    (first | exact KK.out _ (by assumption) | exact KK.out _ (Below.refl _ _).drew | exact KK.out _ (Below.refl _ _) | exact KK.out _ (hb6.alloc hb6.size _))
    (first
      | (go_at_call 31; refine (C23.out _ (by first | assumption | exact (Below.refl _ _).drew)).mono ?_; rintro e w5 ⟨t5, q5, rfl, ht5, hb5⟩)
      | (go_at_call 27; refine (C20.out _ (by first | assumption | exact (Below.refl _ _).drew)).mono ?_; rintro e w6 ⟨rfl, hl6, hb6⟩)
      | (go_at_call 30; refine (C22.out _ _ _ (ht5.later hl6) (by assumption)).mono ?_; rintro e w7 ⟨t7, q7, rfl, ht7, hb7⟩))
  have T7 := hid ht7
  have B7 := hid (B1.out.trans (hb7.mono B1.out.size))
  have AC := hid (fun str => at_some str t7 q7 w7)
  clear KK C23 C20 C22 hb7 ht7 ht5  hl6
  go_wp2_with fail
  refine (AC.out _).mono ?_
  rintro e w8 ⟨rfl, hw8⟩
  have b8 : Below w7.heap.size w7 w8 := by rw [hw8]; exact bAl _ _
  have R8 : Hid (∃ s, w8.heap[w7.heap.size]? = some (.cells #[.string s, .iface t7 q7] 83 (0, 0))) := ⟨_, by rw [hw8]; exact heap_alloc_new w7 _⟩
  have T8 := hid (T7.out.later b8)
  have B8 := hid (B7.out.trans (b8.mono B7.out.size))
  clear AC hw8 b8
  go_wp2_with fail
  go_ret
  obtain ⟨s, hs⟩ := R8.out
  exact ⟨w7.heap.size, s, t7, q7, rfl, hs, T8.out, B8.out⟩
set_option maxHeartbeats 3200000 in
set_option maxRecDepth 100000 in
theorem pin_sn (h : Bg B W bb ob nb n l) (id i g : Int) (h1 : 1 ≤ id) (h2 : id < n) (l2 : List (List ByteArray × Nat)) (hll : ([] : List (List ByteArray × Nat)).length + (l2 : List (List ByteArray × Nat)).length ≤ 1000) (hne : l2 ≠ [])
    (U1 : ∀ W', Bg B W' bb ob nb n l → Below W.heap.size W W' → Calls Tryd.prog 31 #[.pointer (some ⟨bb, 0, none⟩), .int .i64 id] W' fun e w' => e = .returned .nilIface ∧ Below W'.heap.size W' w')
    (U2 : ∀ W', Bg B W' bb ob nb n l → Below W.heap.size W W' → Calls Tryd.prog 27 #[.pointer (some ⟨bb, 0, none⟩), .agg #[.int .i64 i, .int .i64 g]] W' fun e w' => ∃ t q, e = .returned (.iface t q) ∧ Top Ad w'.heap.size w' 1 (.iface t q) l2 ∧ Below W'.heap.size W' w') :
    Calls Tryd.prog 9 #[.pointer (some ⟨bb, 0, none⟩), .int .i64 id, .agg #[.int .i64 i, .int .i64 g]] W fun e W' => ∃ b s t q, e = .returned (.iface 81 (.pointer (some ⟨b, 0, none⟩))) ∧ W'.heap[b]? = some (.cells #[.string s, .iface t q] 83 (0, 0)) ∧ Top Ad W'.heap.size W' 1 (.iface t q) (l2) ∧ Below W.heap.size W W' := by
  obtain ⟨w1, hw1⟩ : ∃ w1, w1 = W.alloc (.cells #[.int .i64 i, .int .i64 g] 29) := ⟨_, rfl⟩
  have b1 : Below W.heap.size W w1 := by rw [hw1]; exact bAl _ _
  have r1 : w1.heap[W.heap.size]? = some (.cells #[.int .i64 i, .int .i64 g] 29 (0, 0)) := by rw [hw1]; exact heap_alloc_new W _
  have hB := h.later b1
  have c2 := hB.c2
  have h1i : ¬ id < 1 := by omega
  have h2i : ¬ id ≥ n := by omega
  have KK : Hid (∀ W', Below w1.heap.size w1 W' → W'.cell? ⟨W.heap.size, 0, none⟩ = some (.int .i64 i) ∧ W'.cell? ⟨W.heap.size, 1, none⟩ = some (.int .i64 g)) := fun W' hb => ⟨cell_blk (blk_seen hb (Nat.le_refl _) r1) rfl, cell_blk (blk_seen hb (Nat.le_refl _) r1) rfl⟩
  have C23 : Hid (∀ W', Below w1.heap.size w1 W' → Calls Tryd.prog 31 #[.pointer (some ⟨bb, 0, none⟩), .int .i64 id] W' fun e w' => e = .returned .nilIface ∧ Below w1.heap.size w1 w') := fun W' hb => (U1 W' (hB.later hb) (b1.trans (hb.mono b1.size))).mono fun _ _ ⟨q1, q3⟩ => ⟨q1, hb.trans (q3.mono hb.size)⟩
  have C20 : Hid (∀ W', Below w1.heap.size w1 W' → Calls Tryd.prog 27 #[.pointer (some ⟨bb, 0, none⟩), .agg #[.int .i64 i, .int .i64 g]] W' fun e w' => ∃ t q, e = .returned (.iface t q) ∧ Top Ad w'.heap.size w' 1 (.iface t q) l2 ∧ Below W'.heap.size W' w' ∧ Below w1.heap.size w1 w') := fun W' hb => (U2 W' (hB.later hb) (b1.trans (hb.mono b1.size))).mono fun _ _ ⟨t, q, q1, q2, q3⟩ => ⟨t, q, q1, q2, q3, hb.trans (q3.mono hb.size)⟩
  have C22 : Hid (∀ W' t6 q6, Top Ad W'.heap.size W' 1 (.iface t6 q6) l2 → Below w1.heap.size w1 W' → Calls Tryd.prog 30 #[.slice (some ⟨W'.heap.size, 0, none⟩) 2 2] (W'.alloc (.cells #[.nilIface, .iface t6 q6] 33)) fun e w' => ∃ t q, e = .returned (.iface t q) ∧ Top Ad w'.heap.size w' 1 (.iface t q) (l2) ∧ Below w1.heap.size w1 w') := fun W' t6 q6 h6 hb => (all_two W' .nilIface (.iface t6 q6) [] l2 1 Top.empty h6 hll).mono fun _ _ ⟨v', q1, q2, q3⟩ => by
    rw [List.nil_append] at q2
    obtain ⟨t, q, rfl⟩ := top_some q2 hne
    exact ⟨t, q, q1, q2, hb.trans (q3.mono hb.size)⟩
  have HW1 := hid hw1
  have B1 := hid b1
  clear h hw1 b1 r1 hB U1 U2 hll hne
  go_enter Tryd.func9, Tryd.ntmps9
  go_upto_region 1 with fail
  rw [← HW1.out]
  go_upto_region 5 with fail
  clear c2 h1i h2i
  go_region_held3 (fun W' => W'.cell? ⟨W.heap.size, 0, none⟩ = some (.int .i64 i) ∧ W'.cell? ⟨W.heap.size, 1, none⟩ = some (.int .i64 g))
    (first | exact KK.out _ (by assumption) | exact KK.out _ (Below.refl _ _).drew | exact KK.out _ (Below.refl _ _) | exact KK.out _ (hb6.alloc hb6.size _))
    (first
      | (go_at_call 31; refine (C23.out _ (by first | assumption | exact (Below.refl _ _).drew)).mono ?_; rintro e w5 ⟨rfl, hb5⟩)
      | (go_at_call 27; refine (C20.out _ (by first | assumption | exact (Below.refl _ _).drew)).mono ?_; rintro e w6 ⟨t6, q6, rfl, ht6, hl6, hb6⟩)
      | (go_at_call 30; refine (C22.out _ _ _ ht6 (by assumption)).mono ?_; rintro e w7 ⟨t7, q7, rfl, ht7, hb7⟩))
  have T7 := hid ht7
  have B7 := hid (B1.out.trans (hb7.mono B1.out.size))
  have AC := hid (fun str => at_some str t7 q7 w7)
  clear KK C23 C20 C22 hb7 ht7  ht6 hl6
  go_wp2_with fail
  refine (AC.out _).mono ?_
  rintro e w8 ⟨rfl, hw8⟩
  have b8 : Below w7.heap.size w7 w8 := by rw [hw8]; exact bAl _ _
  have R8 : Hid (∃ s, w8.heap[w7.heap.size]? = some (.cells #[.string s, .iface t7 q7] 83 (0, 0))) := ⟨_, by rw [hw8]; exact heap_alloc_new w7 _⟩
  have T8 := hid (T7.out.later b8)
  have B8 := hid (B7.out.trans (b8.mono B7.out.size))
  clear AC hw8 b8
  go_wp2_with fail
  go_ret
  obtain ⟨s, hs⟩ := R8.out
  exact ⟨w7.heap.size, s, t7, q7, rfl, hs, T8.out, B8.out⟩
theorem top_of {W : World} {v : Value} {k d : Nat} (h : Err Ad W v k d) : ∃ p, p.2 = k ∧ Top Ad W.heap.size W d v [p] := by
  obtain ⟨ws, h⟩ := h
  exact ⟨(ws, k), rfl, Top.one v _ h⟩
end
end Go.Proofs.YtiebbedpjogjfaaDoor.Bd
