/- Badges: Give. -/
import Derived.Test.YtiebbedpjogjfaaDoorBdBe
namespace Go.Proofs.YtiebbedpjogjfaaDoor.Bd
open Go.RowKit Go.Shelf Go.Maps
theorem wrap_mid {n : Int} (h0 : -1000000 ≤ n) (h1 : n ≤ 2147483648) : IntKind.i64.wrap n = n := by
  unfold IntKind.wrap
  simp [IntKind.signed, IntKind.bits]
  omega
theorem okP.free {n : Int} {l : Prs} (h : okP n l) : Bd.who l n = none := by
  cases q : Bd.who l n with
  | none => rfl
  | some x =>
    have := (h.low _ ((h.who n x).1 q)).2
    simp at this
section
variable {Ad : Nat → Addr} {B : Nat} {W : World} {bb ob nb : Nat} {n : Int} {l : Prs}
set_option maxHeartbeats 1600000 in
set_option maxRecDepth 100000 in
theorem give_nil (hE : Env5 W Ad) (i g : Int) :
    Calls Tryd.prog 7 #[.pointer none, .agg #[.int .i64 i, .int .i64 g]] W fun e W' => ∃ t q, e = .returned (.tuple #[.int .i64 0, .iface t q]) ∧ Err Ad W' (.iface t q) 2 1 ∧ Below W.heap.size W W' := by
  obtain ⟨w1, hw1⟩ : ∃ w1, w1 = W.alloc (.cells #[.int .i64 i, .int .i64 g] 29) := ⟨_, rfl⟩
  have b1 : Below W.heap.size W w1 := by rw [hw1]; exact bAl _ _
  have c2 := (hE.later b1).c2
  have HW1 := hid hw1
  have B1 := hid b1
  have AC := hid (fun str => at_err Ad str _ 2 0 w1 (err_leaf Ad w1 2 (by decide)))
  clear hw1 b1 hE
  go_enter Tryd.func7, Tryd.ntmps7
  go_upto_region 1 with fail
  rw [← HW1.out]
  go_wp2_with fail
  refine (AC.out _).mono ?_
  rintro e w3 ⟨t, q, rfl, hv, hb⟩
  have HV := hid hv
  have B3 := hid (B1.out.trans (hb.mono B1.out.size))
  clear hv hb c2 AC
  go_wp2_with fail
  exact bodyPost_ret (v := .tuple #[.int .i64 0, .iface t q]) (by simp [results, Tryd.results7, go_sem]) rfl ⟨t, q, rfl, HV.out, B3.out⟩
set_option maxHeartbeats 1600000 in
set_option maxRecDepth 100000 in
theorem give_twice (h : Bg B W bb ob nb n l) (hE : Env5 W Ad) (i g : Int) (hi : I64 i) (hg : I64 g) {x : Int} (hn : num l (i, g) = some x) :
    Calls Tryd.prog 7 #[.pointer (some ⟨bb, 0, none⟩), .agg #[.int .i64 i, .int .i64 g]] W fun e W' => ∃ t q, e = .returned (.tuple #[.int .i64 0, .iface t q]) ∧ Err Ad W' (.iface t q) 9 2 ∧ Below W.heap.size W W' := by
  obtain ⟨w1, hw1⟩ : ∃ w1, w1 = W.alloc (.cells #[.int .i64 i, .int .i64 g] 29) := ⟨_, rfl⟩
  have b1 : Below W.heap.size W w1 := by rw [hw1]; exact bAl _ _
  have r1 : w1.heap[W.heap.size]? = some (.cells #[.int .i64 i, .int .i64 g] 29 (0, 0)) := by rw [hw1]; exact heap_alloc_new W _
  have d0 : w1.cell? ⟨W.heap.size, 0, none⟩ = some (.int .i64 i) := cell_blk r1 rfl
  have d1 : w1.cell? ⟨W.heap.size, 1, none⟩ = some (.int .i64 g) := cell_blk r1 rfl
  have UN := hid (unn_some (h.later b1) (hE.later b1) i g hi hg hn)
  have HW1 := hid hw1
  have B1 := hid b1
  clear hw1 b1 hE h hi hg hn r1
  go_enter Tryd.func7, Tryd.ntmps7
  go_upto_region 1 with fail
  rw [← HW1.out]
  go_wp2_with fail
  refine UN.out.mono ?_
  rintro e w2 ⟨t, q, rfl, hv, hb⟩
  have AC := hid (fun str => at_err Ad str _ 9 1 w2 hv)
  have B2 := hid (B1.out.trans (hb.mono B1.out.size))
  clear hv hb UN d0 d1
  go_wp2_with fail
  refine (AC.out _).mono ?_
  rintro e w3 ⟨t3, q3, rfl, hv, hb⟩
  have HV := hid hv
  have B3 := hid (B2.out.trans (hb.mono B2.out.size))
  clear hv hb AC
  go_wp2_with fail
  exact bodyPost_ret (v := .tuple #[.int .i64 0, .iface t3 q3]) (by simp [results, Tryd.results7, go_sem]) rfl ⟨t3, q3, rfl, HV.out, B3.out⟩
set_option maxHeartbeats 1600000 in
set_option maxRecDepth 100000 in
theorem give_full (h : Bg B W bb ob nb n l) (hE : Env5 W Ad) (i g : Int) (hi : I64 i) (hg : I64 g) (hn : num l (i, g) = none) (hf : 1073741824 < n) :
    Calls Tryd.prog 7 #[.pointer (some ⟨bb, 0, none⟩), .agg #[.int .i64 i, .int .i64 g]] W fun e W' => ∃ t q, e = .returned (.tuple #[.int .i64 0, .iface t q]) ∧ Err Ad W' (.iface t q) 6 1 ∧ Below W.heap.size W W' := by
  obtain ⟨w1, hw1⟩ : ∃ w1, w1 = W.alloc (.cells #[.int .i64 i, .int .i64 g] 29) := ⟨_, rfl⟩
  have b1 : Below W.heap.size W w1 := by rw [hw1]; exact bAl _ _
  have r1 : w1.heap[W.heap.size]? = some (.cells #[.int .i64 i, .int .i64 g] 29 (0, 0)) := by rw [hw1]; exact heap_alloc_new W _
  have d0 : w1.cell? ⟨W.heap.size, 0, none⟩ = some (.int .i64 i) := cell_blk r1 rfl
  have d1 : w1.cell? ⟨W.heap.size, 1, none⟩ = some (.int .i64 g) := cell_blk r1 rfl
  have UN := hid (unn_none (h.later b1) i g hi hg hn)
  have HH := hid (h.later b1)
  have HE := hid (hE.later b1)
  have HW1 := hid hw1
  have B1 := hid b1
  clear hw1 b1 hE h hi hg hn r1
  go_enter Tryd.func7, Tryd.ntmps7
  go_upto_region 1 with fail
  rw [← HW1.out]
  go_wp2_with fail
  refine UN.out.mono ?_
  rintro e w2 ⟨rfl, hb⟩
  have c2 := (HH.out.later hb).c2
  have c6 := (HE.out.later hb).c6
  have AC := hid (fun str => at_err Ad str _ 6 0 w2 (err_leaf Ad w2 6 (by decide)))
  have B2 := hid (B1.out.trans (hb.mono B1.out.size))
  clear hb UN d0 d1
  go_wp2_with fail
  refine (AC.out _).mono ?_
  rintro e w3 ⟨t3, q3, rfl, hv, hb⟩
  have HV := hid hv
  have B3 := hid (B2.out.trans (hb.mono B2.out.size))
  clear hv hb AC c2 c6
  go_wp2_with fail
  exact bodyPost_ret (v := .tuple #[.int .i64 0, .iface t3 q3]) (by simp [results, Tryd.results7, go_sem]) rfl ⟨t3, q3, rfl, HV.out, B3.out⟩
set_option maxHeartbeats 3200000 in
set_option maxRecDepth 100000 in
theorem give_ok (h : Bg B W bb ob nb n l) (i g : Int) (hi : I64 i) (hg : I64 g) (hn : num l (i, g) = none) (hf : n ≤ 1073741824) :
    Calls Tryd.prog 7 #[.pointer (some ⟨bb, 0, none⟩), .agg #[.int .i64 i, .int .i64 g]] W fun e W' => e = .returned (.tuple #[.int .i64 n, .nilIface]) ∧ Bg B W' bb ob nb (n + 1) (ins (n, i, g) l) ∧ St (fun k => Ft bb ob nb k) W W' := by
  obtain ⟨w1, hw1⟩ : ∃ w1, w1 = W.alloc (.cells #[.int .i64 i, .int .i64 g] 29) := ⟨_, rfl⟩
  have b1 : Below W.heap.size W w1 := by rw [hw1]; exact bAl _ _
  have r1 : w1.heap[W.heap.size]? = some (.cells #[.int .i64 i, .int .i64 g] 29 (0, 0)) := by rw [hw1]; exact heap_alloc_new W _
  have d0 : w1.cell? ⟨W.heap.size, 0, none⟩ = some (.int .i64 i) := cell_blk r1 rfl
  have d1 : w1.cell? ⟨W.heap.size, 1, none⟩ = some (.int .i64 g) := cell_blk r1 rfl
  have hn1 := h.ok.next
  have hfi : ¬ (1073741824 : Int) < n := by omega
  have hwr : IntKind.i64.wrap (n + 1) = n + 1 := wrap_mid (by omega) (by omega)
  have hok2 : okP (n + 1) (ins (n, i, g) l) := h.ok.add (m := n + 1) (by omega) (by omega) hi hg h.ok.free hn
  have UN := hid (unn_none (h.later b1) i g hi hg hn)
  have HH := hid (h.later b1)
  have H0 := hid h
  have HW1 := hid hw1
  have B1 := hid b1
  have R1 := hid r1
  have JN : Hid (∀ W', Bg B W' bb ob nb (n + 1) l → Calls Tryd.prog 28 #[.pointer (some ⟨bb, 0, none⟩), .int .i64 n, .agg #[.int .i64 i, .int .i64 g]] W' fun e W2 => e = .returned (.tuple #[]) ∧ Bg B W2 bb ob nb (n + 1) (ins (n, i, g) l) ∧ St (fun k => Ft bb ob nb k) W' W2) := fun W' hb => join_ok hb h.ok n i g (I64_mid (by omega) (by omega)) hi hg hok2 h.ok.free hn
  clear hw1 b1 h hi hg hn r1 hok2
  go_enter Tryd.func7, Tryd.ntmps7
  go_upto_region 1 with fail
  rw [← HW1.out]
  go_wp2_with fail
  refine UN.out.mono ?_
  rintro e w2 ⟨rfl, hb⟩
  have h2 := HH.out.later hb
  have c2 := h2.c2
  have fz := blk_free h2.box 2
  have B2 := hid (B1.out.trans (hb.mono B1.out.size))
  have r2 := blk_seen hb (Nat.le_refl _) R1.out
  have hne : ¬ W.heap.size = bb := by have := (H0.out.lt bb (.inl rfl)).2; omega
  have s3 := St.setCell (S := fun k => k = bb) (a := w2) (p := ⟨bb, 2, none⟩) (.int .i64 (n + 1)) rfl
  have x3 : (w2.setCell ⟨bb, 2, none⟩ (.int .i64 (n + 1))).heap[bb]? = some (.cells #[.map (some ob), .map (some nb), .int .i64 (n + 1)] 63 (0, 0)) := by
    have := heap_setCell_same w2 bb 2 _ _ (.int .i64 (n + 1)) h2.box
    simpa using this
  have h3 : Bg B (w2.setCell ⟨bb, 2, none⟩ (.int .i64 (n + 1))) bb ob nb (n + 1) l := ⟨x3, h2.m1.kept s3 fun e => h2.ne1 e.symm, h2.m2.kept s3 fun e => h2.ne2 e.symm, ⟨h2.ok.rise, h2.ok.one, fun x hx => by have := h2.ok.low x hx; omega, h2.ok.i64, by omega⟩, h2.low, h2.ne⟩
  have r3 := s3.at r2 hne
  obtain ⟨w3, hw3⟩ : ∃ w3, w3 = w2.setCell ⟨bb, 2, none⟩ (.int .i64 (n + 1)) := ⟨_, rfl⟩
  rw [← hw3] at s3 x3 h3 r3
  have HW3 := hid hw3
  have e0 : w3.cell? ⟨W.heap.size, 0, none⟩ = some (.int .i64 i) := cell_blk r3 rfl
  have e1 : w3.cell? ⟨W.heap.size, 1, none⟩ = some (.int .i64 g) := cell_blk r3 rfl
  have S3 : Hid (St (fun k => Ft bb ob nb k) W w3) := (St.of_below (S := fun k => Ft bb ob nb k) B2.out).trans s3 fun x _ e => .inl e
  have JO := hid (JN.out w3 h3)
  clear h2 r2 hne s3 x3 h3 r3 hw3 hb UN d0 d1 JN
  go_upto_region 10 with fail
  rw [← HW3.out]
  go_wp2_with fail
  refine JO.out.mono ?_
  rintro e w4 ⟨rfl, h4, s4⟩
  have H4 := hid h4
  have S4 := hid (S3.out.trans s4 fun x _ q => q)
  clear h4 s4 JO e0 e1 c2 fz
  go_wp2_with fail
  exact bodyPost_ret (v := .tuple #[.int .i64 n, .nilIface]) (by simp [results, Tryd.results7, go_sem]) rfl ⟨rfl, H4.out, S4.out⟩
end
end Go.Proofs.YtiebbedpjogjfaaDoor.Bd
