/- Put. -/
import Derived.Test.YtpglanlpnapddaaDoorCn
namespace Go.Proofs.YtpglanlpnapddaaDoor
open Go.RowKit Go.Shelf Go.Maps
set_option maxHeartbeats 800000 in
set_option maxRecDepth 100000 in
theorem put_err (Ad : Nat → Addr) (W : World) (x : Option Addr) (i cm : Int) (p : Pt) (k : Nat)
    (RC : ∀ W', Below W.heap.size W W' → Calls Tryd.prog 24 #[.pointer x, .int .i64 i] W' fun e W'' => ∃ t q, e = .returned (.tuple #[.agg #[.int .i64 0, .int .i64 0, .int .i64 0, .int .i64 0, .int .i64 0, .int .i64 0], .iface t q]) ∧ Err Ad W'' (.iface t q) k 1 ∧ Below W'.heap.size W' W'') :
    Calls Tryd.prog 15 #[.pointer x, .int .i64 i, p.val cm] W fun e W' => ∃ t q, e = .returned (.tuple #[.agg #[.int .i64 0, .int .i64 0, .int .i64 0, .int .i64 0, .int .i64 0, .int .i64 0], .iface t q]) ∧ Err Ad W' (.iface t q) k 2 ∧ Below W.heap.size W W' := by
  have BA : Hid (Below W.heap.size W ((W.alloc (.cells (p.arr cm) 34)).alloc (.cells #[.int .i64 0, .int .i64 0, .int .i64 0, .int .i64 0, .int .i64 0, .int .i64 0] 34))) := (bAl _ _).alloc (by simp) _
  have HC := hid (RC _ BA.out)
  have HH0 : Hid (((W.alloc (.cells (p.arr cm) 34)).alloc (.cells #[.int .i64 0, .int .i64 0, .int .i64 0, .int .i64 0, .int .i64 0, .int .i64 0] 34)).heap[W.heap.size + 1]? = some (.cells (Pt.zero.arr 0) 34 (0, 0))) := by
    have := heap_alloc_new (W.alloc (.cells (p.arr cm) 34)) (.cells #[.int .i64 0, .int .i64 0, .int .i64 0, .int .i64 0, .int .i64 0, .int .i64 0] 34)
    rw [World.size_alloc] at this
    exact this
  clear RC
  have AC := hid (fun s v w h => at_err Ad s v k 1 w h)
  unfold Pt.val
  unfold Pt.arr at HC BA HH0
  go_enter Tryd.func15, Tryd.ntmps15
  go_wp2_with fail
  refine HC.out.mono ?_
  rintro e w1 ⟨t, q, rfl, hv, hb⟩
  have HB := hid (BA.out.trans (hb.mono BA.out.size))
  have HH := hid (blk_seen hb (Nat.le_refl _) HH0.out)
  have HV := hid (hv.later (bAl w1 (.cells #[.int .i64 0, .int .i64 0, .int .i64 0, .int .i64 0, .int .i64 0, .int .i64 0] 34)))
  clear hv hb HC HH0
  go_wp2_with fail
  refine (AC.out _ _ _ HV.out).mono ?_
  rintro e w2 ⟨t2, q2, rfl, hv2, hb2⟩
  have bb := (bAl w1 (.cells #[.int .i64 0, .int .i64 0, .int .i64 0, .int .i64 0, .int .i64 0, .int .i64 0] 34)).trans (hb2.mono (bAl w1 (.cells #[.int .i64 0, .int .i64 0, .int .i64 0, .int .i64 0, .int .i64 0, .int .i64 0] 34)).size)
  have HV2 := hid hv2
  have HB2 := hid (HB.out.trans (bb.mono HB.out.size))
  have HH2 := hid (blk_seen bb (Nat.le_refl _) HH.out)
  obtain ⟨d0, d1, d2, d3, d4, d5, f0, f1, f2, f3, f4, f5⟩ := lies HH2.out
  unfold Pt.zero at d1 d2 d3 d4 d5
  clear hv2 hb2 bb AC HV HH
  go_wp2_with fail
  have PS := put6_same HH2.out
  unfold put6 Pt.zero at PS
  rw [PS]
  exact bodyPost_ret (v := .tuple #[.agg #[.int .i64 0, .int .i64 0, .int .i64 0, .int .i64 0, .int .i64 0, .int .i64 0], .iface t2 q2]) (by simp [results, Tryd.results15, go_sem, d0, d1, d2, d3, d4, d5]) rfl ⟨t2, q2, rfl, HV2.out, HB2.out⟩
theorem put_nil (Ad : Nat → Addr) (W : World) (hE : Env3 W Ad) (i cm : Int) (p : Pt) :
    Calls Tryd.prog 15 #[.pointer none, .int .i64 i, p.val cm] W fun e W' => ∃ t q, e = .returned (.tuple #[.agg #[.int .i64 0, .int .i64 0, .int .i64 0, .int .i64 0, .int .i64 0, .int .i64 0], .iface t q]) ∧ Err Ad W' (.iface t q) 2 2 ∧ Below W.heap.size W W' :=
  put_err Ad W none i cm p 2 fun _ hb => row_nil Ad _ (hE.later hb) i
theorem put_none (Ad : Nat → Addr) {B : Nat} {W : World} {rb mb : Nat} {sv : Value} {s : CS} (h : Cl B W rb mb sv s) (hE : Env3 W Ad) (i cm : Int) (p : Pt) (hi : I64 i) (hr : rowAt s.rows i = none) :
    Calls Tryd.prog 15 #[.pointer (some ⟨rb, 0, none⟩), .int .i64 i, p.val cm] W fun e W' => ∃ t q, e = .returned (.tuple #[.agg #[.int .i64 0, .int .i64 0, .int .i64 0, .int .i64 0, .int .i64 0, .int .i64 0], .iface t q]) ∧ Err Ad W' (.iface t q) 7 2 ∧ Below W.heap.size W W' :=
  put_err Ad W _ i cm p 7 fun _ hb => row_none Ad (h.later hb) (hE.later hb) i hi hr
set_option maxHeartbeats 1600000 in
set_option maxRecDepth 100000 in
theorem put_bad (Ad : Nat → Addr) {B : Nat} {W : World} {rb mb : Nat} {sv : Value} {s : CS} (h : Cl B W rb mb sv s) (hE : Env3 W Ad) (n : Nat) (p : Pt) (hp : s.rows[n]? = some p) (cm : Int) (q : Pt) (hc : cm ≠ s.comp ∨ q.fitB s.w = false) :
    Calls Tryd.prog 15 #[.pointer (some ⟨rb, 0, none⟩), .int .i64 (n : Int), q.val cm] W fun e W' => ∃ t u, e = .returned (.tuple #[.agg #[.int .i64 0, .int .i64 0, .int .i64 0, .int .i64 0, .int .i64 0, .int .i64 0], .iface t u]) ∧ Err Ad W' (.iface t u) 1 2 ∧ Below W.heap.size W W' := by
  have BA : Hid (Below W.heap.size W ((W.alloc (.cells (q.arr cm) 34)).alloc (.cells #[.int .i64 0, .int .i64 0, .int .i64 0, .int .i64 0, .int .i64 0, .int .i64 0] 34))) := (bAl _ _).alloc (by simp) _
  have RW := hid (row_some (h.later BA.out) n p hp)
  have HH0 : Hid (((W.alloc (.cells (q.arr cm) 34)).alloc (.cells #[.int .i64 0, .int .i64 0, .int .i64 0, .int .i64 0, .int .i64 0, .int .i64 0] 34)).heap[W.heap.size + 1]? = some (.cells (Pt.zero.arr 0) 34 (0, 0))) := by
    have := heap_alloc_new (W.alloc (.cells (q.arr cm) 34)) (.cells #[.int .i64 0, .int .i64 0, .int .i64 0, .int .i64 0, .int .i64 0, .int .i64 0] 34)
    rw [World.size_alloc] at this
    exact this
  have PP0 : Hid (((W.alloc (.cells (q.arr cm) 34)).alloc (.cells #[.int .i64 0, .int .i64 0, .int .i64 0, .int .i64 0, .int .i64 0, .int .i64 0] 34)).heap[W.heap.size]? = some (.cells (q.arr cm) 34 (0, 0))) := by
    show _ = _
    rw [Below.heap_alloc _ _ _ (by simp)]; exact heap_alloc_new W _
  have CK := hid (fun W' (hb : Below W.heap.size W W') => check_bad Ad (h.later hb) (hE.later hb) cm q hc)
  have AC := hid (fun s v w h => at_err Ad s v 1 1 w h)
  clear h hE hp hc
  unfold Pt.val at RW CK ⊢
  unfold Pt.arr at BA RW HH0 PP0
  go_enter Tryd.func15, Tryd.ntmps15
  go_wp2_with fail
  refine RW.out.mono ?_
  rintro e w1 ⟨rfl, hb⟩
  have c1 := hb.trans ((bAl w1 (.cells #[.int .i64 s.comp, .int .i64 p.a, .int .i64 p.b, .int .i64 p.c, .int .i64 p.d, .int .i64 p.t] 34)).mono hb.size)
  have B2 := hid (BA.out.trans (c1.mono BA.out.size))
  have H2 := hid (blk_seen c1 (Nat.le_refl _) HH0.out)
  have P2 := hid (blk_seen hb (Nat.le_refl _) PP0.out)
  have k0 := cell_blk P2.out (j := 0) rfl
  have k1 := cell_blk P2.out (j := 1) rfl
  have k2 := cell_blk P2.out (j := 2) rfl
  have k3 := cell_blk P2.out (j := 3) rfl
  have k4 := cell_blk P2.out (j := 4) rfl
  have k5 := cell_blk P2.out (j := 5) rfl
  have hl := World.block_lt_of_cell? w1 _ k0
  have hne := World.new_ne w1 _ k0
  clear hb c1 RW HH0 PP0
  go_wp2_with fail
  refine (CK.out _ B2.out).mono ?_
  rintro e w3 ⟨t3, q3, rfl, hv3, hb3⟩
  have HV3 := hid hv3
  have B3 := hid (B2.out.trans (hb3.mono B2.out.size))
  have H3 := hid (blk_seen hb3 (Nat.le_refl _) H2.out)
  clear hv3 hb3 CK k0 k1 k2 k3 k4 k5 hl hne
  go_wp2_with fail
  refine (AC.out _ _ _ HV3.out).mono ?_
  rintro e w4 ⟨t4, q4, rfl, hv4, hb4⟩
  have HV4 := hid hv4
  have B4 := hid (B3.out.trans (hb4.mono B3.out.size))
  have H4 := hid (blk_seen hb4 (Nat.le_refl _) H3.out)
  obtain ⟨d0, d1, d2, d3, d4, d5, f0, f1, f2, f3, f4, f5⟩ := lies H4.out
  unfold Pt.zero at d1 d2 d3 d4 d5
  clear hv4 hb4 AC
  go_wp2_with fail
  have PS := put6_same H4.out
  unfold put6 Pt.zero at PS
  rw [PS]
  exact bodyPost_ret (v := .tuple #[.agg #[.int .i64 0, .int .i64 0, .int .i64 0, .int .i64 0, .int .i64 0, .int .i64 0], .iface t4 q4]) (by simp [results, Tryd.results15, go_sem, d0, d1, d2, d3, d4, d5]) rfl ⟨t4, q4, rfl, HV4.out, B4.out⟩
end Go.Proofs.YtpglanlpnapddaaDoor
