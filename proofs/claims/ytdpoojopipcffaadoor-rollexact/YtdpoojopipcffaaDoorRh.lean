/- awake. -/
import Derived.Test.YtdpoojopipcffaaDoorRg
namespace Go.Proofs.YtdpoojopipcffaaDoor
open Go.RowKit Go.Shelf Go.Maps
theorem bAl (W : World) (o : Obj) : Below W.heap.size W (W.alloc o) := (Below.refl _ _).alloc (Nat.le_refl _) _
theorem St.at {S : Nat → Prop} {W W' : World} {b : Nat} {o : Obj} (hs : St S W W') (h : W.heap[b]? = some o) (hn : ¬ S b) : W'.heap[b]? = some o := (hs.block b (Array.getElem?_eq_some_iff.1 h).1 hn).trans h
set_option maxRecDepth 100000 in
theorem eql_ent (i g i' g' : Int) (hi : I64 i) (hg : I64 g) (hi' : I64 i') (hg' : I64 g') (w : World) : (binOp .eql 24 (.agg #[.int .i64 i, .int .i64 g]) (.agg #[.int .i64 i', .int .i64 g'])).run Tryd.prog w = .ok (.bool (decide (i = i' ∧ g = g'))) w := by
  obtain ⟨r, hr, hiff⟩ := run_equal_deep (P := Tryd.prog) w (m := 2) (by omega) (k := 24) (by kernel_rfl) Tryd.wide24 (key_ent i g hi hg) (key_ent i' g' hi' hg')
  have e : r = decide (i = i' ∧ g = g') := by
    rw [Bool.eq_iff_iff, hiff, decide_eq_true_iff]
    exact ⟨fun h => kl_inj hi hg hi' hg' h, fun h => by rw [h.1, h.2]⟩
  unfold entV at hr
  rw [← e]
  simp [binOp, hr]
set_option maxRecDepth 100000 in
theorem neq_ent (i g i' g' : Int) (hi : I64 i) (hg : I64 g) (hi' : I64 i') (hg' : I64 g') (w : World) : (binOp .neq 24 (.agg #[.int .i64 i, .int .i64 g]) (.agg #[.int .i64 i', .int .i64 g'])).run Tryd.prog w = .ok (.bool (!decide (i = i' ∧ g = g'))) w := by
  obtain ⟨r, hr, hiff⟩ := run_equal_deep (P := Tryd.prog) w (m := 2) (by omega) (k := 24) (by kernel_rfl) Tryd.wide24 (key_ent i g hi hg) (key_ent i' g' hi' hg')
  have e : r = decide (i = i' ∧ g = g') := by
    rw [Bool.eq_iff_iff, hiff, decide_eq_true_iff]
    exact ⟨fun h => kl_inj hi hg hi' hg' h, fun h => by rw [h.1, h.2]⟩
  unfold entV at hr
  rw [← e]
  simp [binOp, hr]
theorem eq01 (w : World) : (binOp .eql 24 (.agg #[.int .i64 0, .int .i64 1]) (.agg #[.int .i64 0, .int .i64 1])).run Tryd.prog w = .ok (.bool true) w := by kernel_rfl
theorem eq11 (w : World) : (binOp .eql 24 (.agg #[.int .i64 1, .int .i64 1]) (.agg #[.int .i64 1, .int .i64 1])).run Tryd.prog w = .ok (.bool true) w := by kernel_rfl
theorem eq02 (w : World) : (binOp .eql 24 (.agg #[.int .i64 0, .int .i64 2]) (.agg #[.int .i64 0, .int .i64 2])).run Tryd.prog w = .ok (.bool true) w := by kernel_rfl
set_option maxHeartbeats 3200000 in
set_option maxRecDepth 100000 in
theorem awake_any (w : World) (Ad : Nat → Addr) (hE : Env4 w Ad) :
    Calls Tryd.prog 6 #[] w fun e w' => e = .returned (.bool true) ∧ Below w.heap.size w w' := by
  have HE := hid hE
  clear hE
  have N : Hid (Calls Tryd.prog 7 #[.int .i64 2] w fun e W' => ∃ rb S, e = .returned (.tuple #[.pointer (some ⟨rb, 0, none⟩), .nilIface]) ∧ Rol w.heap.size W' rb 0 ⟨[0, 0], [1, 0]⟩ S ∧ Below w.heap.size w W') := rol_new w 2 (by decide)
  go_enter Tryd.func6, Tryd.ntmps6
  go_wp2_with fail
  refine N.out.mono ?_
  rintro e w1 ⟨rb, S, rfl, h1, b1⟩
  have B1 := hid b1
  have L1 := hid h1.lt
  have T1 : Hid (Calls Tryd.prog 10 #[.pointer (some ⟨rb, 0, none⟩)] w1 fun e W' => e = .returned (.tuple #[.agg #[.int .i64 0, .int .i64 1], .nilIface]) ∧ Rol w.heap.size W' rb 1 ⟨[1, 0], [1]⟩ S ∧ St S w1 W') := rol_take (f := [1]) (i := 0) h1 rfl (by decide)
  have Q1 := hid h1
  clear N h1 b1
  go_wp2_with fail
  refine T1.out.mono ?_
  rintro e w2 ⟨rfl, h2, s2⟩
  have B2 := hid (B1.out.trans (Q1.out.below s2))
  have A2 := hid (heap_alloc_new w2 (.cells #[.int .i64 0, .int .i64 1] 24))
  have NA : Hid (¬ S w2.heap.size) := fun q => by have := h2.lt _ q; omega
  have T2 : Hid (Calls Tryd.prog 10 #[.pointer (some ⟨rb, 0, none⟩)] (w2.alloc (.cells #[.int .i64 0, .int .i64 1] 24)) fun e W' => e = .returned (.tuple #[.agg #[.int .i64 1, .int .i64 1], .nilIface]) ∧ Rol w.heap.size W' rb 2 ⟨[1, 1], []⟩ S ∧ St S (w2.alloc (.cells #[.int .i64 0, .int .i64 1] 24)) W') := rol_take (f := []) (i := 1) (h2.later (bAl _ _)) rfl (by decide)
  have Q2 := hid (h2.later (bAl w2 (.cells #[.int .i64 0, .int .i64 1] 24)))
  clear T1 h2 s2 L1 Q1
  go_wp2_with fail
  refine T2.out.mono ?_
  rintro e w3 ⟨rfl, h3, s3⟩
  have B3 := hid (B2.out.trans (((bAl w2 (.cells #[.int .i64 0, .int .i64 1] 24)).mono B2.out.size).trans (Q2.out.below s3)))
  have A3 := hid (s3.at A2.out NA.out)
  have A3' := hid (blk_seen (bAl w3 (.cells #[.int .i64 1, .int .i64 1] 24)) (Nat.le_refl _) A3.out)
  have C3 := hid (heap_alloc_new w3 (.cells #[.int .i64 1, .int .i64 1] 24))
  have NB : Hid (¬ S w3.heap.size) := fun q => by have := h3.lt _ q; omega
  have Q3 := hid (h3.later (bAl w3 (.cells #[.int .i64 1, .int .i64 1] 24)))
  have B3' := hid (B3.out.trans ((bAl w3 (.cells #[.int .i64 1, .int .i64 1] 24)).mono B3.out.size))
  have F4 := hid (rol_full Ad Q3.out (HE.out.later B3'.out) rfl)
  clear T2 h3 s3 Q2 A2
  go_wp2_with fail
  refine F4.out.mono ?_
  rintro e w4 ⟨bf, rfl, hbf, v4, b4⟩
  have V4 := hid (v4.later (bAl w4 (.cells #[.int .i64 0, .int .i64 0] 24)))
  have b4' := b4.trans ((bAl w4 (.cells #[.int .i64 0, .int .i64 0] 24)).mono b4.size)
  have NF : Hid (¬ S bf) := fun q => by have := Q3.out.lt _ q; omega
  have A4 := hid (blk_seen b4' (Nat.le_refl _) A3'.out)
  have C4 := hid (blk_seen b4' (Nat.le_refl _) C3.out)
  have Q4 := hid (Q3.out.later b4')
  have B4 := hid (B3'.out.trans (b4'.mono B3'.out.size))
  have d0 := cell_blk A4.out (j := 0) rfl
  have d1 := cell_blk A4.out (j := 1) rfl
  have F5 : Hid (Calls Tryd.prog 13 #[.pointer (some ⟨rb, 0, none⟩), .agg #[.int .i64 0, .int .i64 1]] (w4.alloc (.cells #[.int .i64 0, .int .i64 0] 24)) fun e W' => e = .returned .nilIface ∧ ∃ S', Rol w.heap.size W' rb 2 ⟨[1, 1], [0]⟩ S' ∧ St S (w4.alloc (.cells #[.int .i64 0, .int .i64 0] 24)) W' ∧ ∀ x, S' x → S x ∨ (w4.alloc (.cells #[.int .i64 0, .int .i64 0] 24)).heap.size ≤ x) := rol_free Q4.out 0 1 (I64_small (by decide) (by decide)) (I64_small (by decide) (by decide)) (by decide)
  have L4 : Hid (w2.heap.size < (w4.alloc (.cells #[.int .i64 0, .int .i64 0] 24)).heap.size ∧ w3.heap.size < (w4.alloc (.cells #[.int .i64 0, .int .i64 0] 24)).heap.size ∧ bf < (w4.alloc (.cells #[.int .i64 0, .int .i64 0] 24)).heap.size) := by
    refine ⟨(Array.getElem?_eq_some_iff.1 A4.out).1, (Array.getElem?_eq_some_iff.1 C4.out).1, ?_⟩
    obtain ⟨⟨b', inner, hv, hlt, _⟩, _⟩ := V4.out
    obtain rfl : bf = b' := by simpa using hv
    exact hlt
  clear F4 v4 b4 b4' A3 A3' C3 Q3 B3 B3' hbf
  go_wp2_with fail
  refine F5.out.mono ?_
  rintro e w5 ⟨rfl, S5, h5, s5, hS5⟩
  have A5 := hid (s5.at A4.out NA.out)
  have C5 := hid (s5.at C4.out NB.out)
  have V5 := hid (V4.out.kept s5 NF.out)
  have B5 := hid (B4.out.trans (Q4.out.below s5))
  have NA5 : Hid (¬ S5 w2.heap.size) := fun q => (hS5 _ q).elim NA.out (fun e => by have := L4.out; omega)
  have NB5 : Hid (¬ S5 w3.heap.size) := fun q => (hS5 _ q).elim NB.out (fun e => by have := L4.out; omega)
  have NF5 : Hid (¬ S5 bf) := fun q => (hS5 _ q).elim NF.out (fun e => by have := L4.out; omega)
  have T6 : Hid (Calls Tryd.prog 10 #[.pointer (some ⟨rb, 0, none⟩)] w5 fun e W' => e = .returned (.tuple #[.agg #[.int .i64 0, .int .i64 2], .nilIface]) ∧ Rol w.heap.size W' rb 3 ⟨[2, 1], []⟩ S5 ∧ St S5 w5 W') := rol_take (f := []) (i := 0) h5 rfl (by decide)
  have Q5 := hid h5
  clear F5 s5 hS5 A4 C4 V4 B4 Q4 NA NB NF L4 d0 d1 h5
  go_wp2_with fail
  refine T6.out.mono ?_
  rintro e w6 ⟨rfl, h6, s6⟩
  have A6 := hid (blk_seen (bAl w6 (.cells #[.int .i64 0, .int .i64 2] 24)) (Nat.le_refl _) (s6.at A5.out NA5.out))
  have C6 := hid (blk_seen (bAl w6 (.cells #[.int .i64 0, .int .i64 2] 24)) (Nat.le_refl _) (s6.at C5.out NB5.out))
  have D6 := hid (heap_alloc_new w6 (.cells #[.int .i64 0, .int .i64 2] 24))
  have V6 := hid ((V5.out.kept s6 NF5.out).later (bAl w6 (.cells #[.int .i64 0, .int .i64 2] 24)))
  have Q6 := hid (h6.later (bAl w6 (.cells #[.int .i64 0, .int .i64 2] 24)))
  have b6 := B5.out.trans (Q5.out.below s6)
  have B6 := hid (b6.trans ((bAl w6 (.cells #[.int .i64 0, .int .i64 2] 24)).mono b6.size))
  have N7 := hid (new_high Ad _ (HE.out.later B6.out) 65 (by decide))
  clear T6 h6 s6 b6 A5 C5 V5 B5 Q5
  go_wp2_with fail
  refine N7.out.mono ?_
  rintro e w7 ⟨v7, rfl, hv7, b7⟩
  have B7 := hid (B6.out.trans (b7.mono B6.out.size))
  have V7 := hid hv7
  have KK : Hid (∀ W', Below w7.heap.size w7 W' → W'.cell? ⟨w2.heap.size, 0, none⟩ = some (.int .i64 0) ∧ W'.cell? ⟨w2.heap.size, 1, none⟩ = some (.int .i64 1) ∧ W'.cell? ⟨w3.heap.size, 0, none⟩ = some (.int .i64 1) ∧ W'.cell? ⟨w3.heap.size, 1, none⟩ = some (.int .i64 1) ∧ W'.cell? ⟨w6.heap.size, 0, none⟩ = some (.int .i64 0) ∧ W'.cell? ⟨w6.heap.size, 1, none⟩ = some (.int .i64 2) ∧ W'.cell? ⟨0, 0, none⟩ = some (.iface 91 (.pointer (some (Ad 1)))) ∧ W'.cell? ⟨2, 0, none⟩ = some (.iface 91 (.pointer (some (Ad 6)))) ∧ W'.cell? ⟨3, 0, none⟩ = some (.iface 91 (.pointer (some (Ad 17))))) := by
    intro W' hb
    have a := blk_seen hb (Nat.le_refl _) (blk_seen b7 (Nat.le_refl _) A6.out)
    have b := blk_seen hb (Nat.le_refl _) (blk_seen b7 (Nat.le_refl _) C6.out)
    have c := blk_seen hb (Nat.le_refl _) (blk_seen b7 (Nat.le_refl _) D6.out)
    have e := HE.out.later (B7.out.trans (hb.mono B7.out.size))
    exact ⟨cell_blk a rfl, cell_blk a rfl, cell_blk b rfl, cell_blk b rfl, cell_blk c rfl, cell_blk c rfl, e.c1, e.c6, e.c17⟩
  have EE : Hid (∀ W', Below w7.heap.size w7 W' → Env4 W' Ad) := fun W' hb => HE.out.later (B7.out.trans (hb.mono B7.out.size))
  have I6 : Hid (∀ W', Below w7.heap.size w7 W' → Calls Tryd.prog 9 #[.iface 66 (.pointer (some ⟨bf, 0, none⟩)), .iface 91 (.pointer (some (Ad 6)))] W' fun e w' => e = .returned (.bool true) ∧ Below w7.heap.size w7 w') := fun W' hb =>
    (is_err Ad (EE.out W' hb) ((V6.out.later b7).later hb) (by decide) (by decide)).mono fun e w' ⟨he, h⟩ => ⟨he, hb.trans (h.mono hb.size)⟩
  obtain ⟨t7, q7, rfl⟩ := hv7.shape
  have I1 : Hid (∀ W', Below w7.heap.size w7 W' → Calls Tryd.prog 9 #[.iface t7 q7, .iface 91 (.pointer (some (Ad 1)))] W' fun e w' => e = .returned (.bool true) ∧ Below w7.heap.size w7 w') := fun W' hb =>
    (is_err Ad (EE.out W' hb) (V7.out.later hb) (by decide) (by decide)).mono fun e w' ⟨he, h⟩ => ⟨he, hb.trans (h.mono hb.size)⟩
  have I17 : Hid (∀ W' v, ErrAt Ad W' v bFree 17 → Below w7.heap.size w7 W' → Calls Tryd.prog 9 #[v, .iface 91 (.pointer (some (Ad 17)))] W' fun e w' => e = .returned (.bool true) ∧ Below w7.heap.size w7 w') := fun W' v hv hb =>
    (is_err Ad (EE.out W' hb) hv (by decide) (by decide)).mono fun e w' ⟨he, h⟩ => ⟨he, hb.trans (h.mono hb.size)⟩
  have FD : Hid (∀ W', Below w7.heap.size w7 W' → Calls Tryd.prog 13 #[.pointer (some ⟨rb, 0, none⟩), .agg #[.int .i64 0, .int .i64 1]] W' fun e w' => ∃ t q, e = .returned (.iface t q) ∧ ErrAt Ad w' (.iface t q) bFree 17 ∧ Below w7.heap.size w7 w') := fun W' hb =>
    (rol_dead Ad ((Q6.out.later b7).later hb) (EE.out W' hb) 0 1 (I64_small (by decide) (by decide)) (I64_small (by decide) (by decide)) (by decide)).mono fun e w' ⟨v, he, hv, h⟩ => by
      obtain ⟨t, q, rfl⟩ := hv.shape
      exact ⟨t, q, he, hv, hb.trans (h.mono hb.size)⟩
  have CN : Hid (∀ W', Below w7.heap.size w7 W' → Calls Tryd.prog 20 #[.pointer (some ⟨rb, 0, none⟩)] W' fun e w' => e = .returned (.int .i64 2) ∧ w' = W') := fun W' hb => rol_count ((Q6.out.later b7).later hb)
  have q1 := eq01
  have q2 := eq11
  have q3 := eq02
  clear N7 b7 hv7 A6 C6 D6 V6 Q6 B6
  go_wp2_with fail
  go_region_held3 (fun W' => W'.cell? ⟨w2.heap.size, 0, none⟩ = some (.int .i64 0) ∧ W'.cell? ⟨w2.heap.size, 1, none⟩ = some (.int .i64 1) ∧ W'.cell? ⟨w3.heap.size, 0, none⟩ = some (.int .i64 1) ∧ W'.cell? ⟨w3.heap.size, 1, none⟩ = some (.int .i64 1) ∧ W'.cell? ⟨w6.heap.size, 0, none⟩ = some (.int .i64 0) ∧ W'.cell? ⟨w6.heap.size, 1, none⟩ = some (.int .i64 2) ∧ W'.cell? ⟨0, 0, none⟩ = some (.iface 91 (.pointer (some (Ad 1)))) ∧ W'.cell? ⟨2, 0, none⟩ = some (.iface 91 (.pointer (some (Ad 6)))) ∧ W'.cell? ⟨3, 0, none⟩ = some (.iface 91 (.pointer (some (Ad 17)))))
    (first | exact KK.out _ (by assumption) | exact KK.out _ (Below.refl _ _).drew)
    (first
      | (go_at_call_of 9 (Ad 6); refine (I6.out _ (by first | assumption | exact (Below.refl _ _).drew)).mono ?_; rintro e w8 ⟨rfl, hb8⟩)
      | (go_at_call_of 9 (Ad 1); refine (I1.out _ (by first | assumption | exact (Below.refl _ _).drew)).mono ?_; rintro e w8 ⟨rfl, hb8⟩)
      | (go_at_call_of 9 (Ad 17); refine (I17.out _ _ (by assumption) (by first | assumption | exact (Below.refl _ _).drew)).mono ?_; rintro e w8 ⟨rfl, hb8⟩)
      | (go_at_call 13; refine (FD.out _ (by first | assumption | exact (Below.refl _ _).drew)).mono ?_; rintro e w8 ⟨t8, q8, rfl, hv8, hb8⟩)
      | (go_at_call 20; refine (CN.out _ (by first | assumption | exact (Below.refl _ _).drew)).mono ?_; rintro e w8 ⟨rfl, rfl⟩))
  have BF := hid (B7.out.trans (hb8.mono B7.out.size))
  clear KK EE I6 I1 I17 FD CN q1 q2 q3 hb8
  go_wp2_with fail
  go_ret
  exact ⟨rfl, BF.out⟩
end Go.Proofs.YtdpoojopipcffaaDoor
