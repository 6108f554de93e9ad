/- A journal: Note. -/
import Derived.Test.YtnbgjbdbbmpoaaaDoorJoJk
namespace Go.Proofs.YtnbgjbdbbmpoaaaDoor.Jo
open Go.RowKit Go.Shelf Go.Maps
theorem PSrc.form {W : World} {v : Value} {l : List Prt} (h : PSrc W v l) : ∃ ad n c, v = .slice ad n c := by
  obtain ⟨a, c, e, -⟩ := h.row
  exact ⟨a, _, c, e⟩
section
variable {B : Nat} {W W' : World} {jb : Nat} {sv mv : Value} {most : Nat} {st : List Sx} {Ad : Nat → Addr}
set_option maxHeartbeats 800000 in
theorem note_nil (hE : Env8 W Ad) (u : Ue) (hpv : ∃ ad n c, u.pv = .slice ad n c) :
    Calls Tryd.prog 14 #[.pointer none, .agg #[.int .i64 u.k, .int .i64 u.id, .int .i64 u.p.c, .int .i64 u.p.v0, .int .i64 u.p.v1, .int .i64 u.p.v2, .int .i64 u.p.v3, .int .i64 u.p.t, u.pv, .int .i64 u.n, .int .i64 u.o]] W fun e W' => ∃ t q, e = .returned (.iface t q) ∧ Err Ad W' (.iface t q) 2 1 ∧ Below W.heap.size W W' := by
  obtain ⟨k, id, p, pv, ps, n, o⟩ := u
  obtain ⟨ad, nn, cc, rfl⟩ := hpv
  simp only
  have HW := hid (bAl W (.cells #[.int .i64 k, .int .i64 id, .int .i64 p.c, .int .i64 p.v0, .int .i64 p.v1, .int .i64 p.v2, .int .i64 p.v3, .int .i64 p.t, .slice ad nn cc, .int .i64 n, .int .i64 o] 38))
  have c2 := (hE.later HW.out).k2
  have c2' := hE.k2
  have hlt : 1 < W.heap.size := World.block_lt_of_cell? W _ c2'
  have hne : ¬ 1 = W.heap.size := by omega
  have AC := hid (fun str => at_err Ad str _ 2 0 (W.alloc (.cells #[.int .i64 k, .int .i64 id, .int .i64 p.c, .int .i64 p.v0, .int .i64 p.v1, .int .i64 p.v2, .int .i64 p.v3, .int .i64 p.t, .slice ad nn cc, .int .i64 n, .int .i64 o] 38)) (err_leaf Ad _ 2 (by decide)))
  clear hE c2
  go_enter Tryd.func14, Tryd.ntmps14
  go_wp2_with fail
  refine (AC.out _).mono ?_
  rintro e w1 ⟨t, q, rfl, hv, hb⟩
  have HV := hid hv
  have HB := hid (HW.out.trans (hb.mono HW.out.size))
  clear hv hb AC
  go_wp2_with fail
  go_ret
  exact ⟨t, q, rfl, HV.out, HB.out⟩
set_option maxHeartbeats 1600000 in
theorem note_kind (hE : Env8 W Ad) (jb : Nat) (u : Ue) (hk : u.k < 1 ∨ 9 < u.k) (hpv : ∃ ad n c, u.pv = .slice ad n c) :
    Calls Tryd.prog 14 #[.pointer (some ⟨jb, 0, none⟩), .agg #[.int .i64 u.k, .int .i64 u.id, .int .i64 u.p.c, .int .i64 u.p.v0, .int .i64 u.p.v1, .int .i64 u.p.v2, .int .i64 u.p.v3, .int .i64 u.p.t, u.pv, .int .i64 u.n, .int .i64 u.o]] W fun e W' => ∃ t q, e = .returned (.iface t q) ∧ Err Ad W' (.iface t q) 1 2 ∧ Below W.heap.size W W' := by
  obtain ⟨k, id, p, pv, ps, n, o⟩ := u
  obtain ⟨ad, nn, cc, rfl⟩ := hpv
  simp only at hk ⊢
  have HW := hid (bAl W (.cells #[.int .i64 k, .int .i64 id, .int .i64 p.c, .int .i64 p.v0, .int .i64 p.v1, .int .i64 p.v2, .int .i64 p.v3, .int .i64 p.t, .slice ad nn cc, .int .i64 n, .int .i64 o] 38))
  have c2' := hE.k1
  have hlt : 0 < W.heap.size := World.block_lt_of_cell? W _ c2'
  have hne : ¬ 0 = W.heap.size := by omega
  have AC := hid (fun str => at_err Ad str _ 1 0 (W.alloc (.cells #[.int .i64 k, .int .i64 id, .int .i64 p.c, .int .i64 p.v0, .int .i64 p.v1, .int .i64 p.v2, .int .i64 p.v3, .int .i64 p.t, .slice ad nn cc, .int .i64 n, .int .i64 o] 38)) (err_leaf Ad _ 1 (by decide)))
  clear hE
  by_cases h0 : k < 1
  · clear hk
    go_enter Tryd.func14, Tryd.ntmps14
    go_wp2_with fail
    refine (AC.out _).mono ?_
    rintro e w1 ⟨t, q, rfl, hv, hb⟩
    have A2 := hid (fun str => at_err Ad str _ 1 1 w1 hv)
    have HB := hid (HW.out.trans (hb.mono HW.out.size))
    clear hv hb AC
    go_wp2_with fail
    refine (A2.out _).mono ?_
    rintro e w2 ⟨t2, q2, rfl, hv, hb⟩
    have HV := hid hv
    have HB2 := hid (HB.out.trans (hb.mono HB.out.size))
    clear hv hb A2
    go_wp2_with fail
    go_ret
    exact ⟨t2, q2, rfl, HV.out, HB2.out⟩
  · have h1 : 9 < k := by omega
    clear hk
    go_enter Tryd.func14, Tryd.ntmps14
    go_wp2_with fail
    refine (AC.out _).mono ?_
    rintro e w1 ⟨t, q, rfl, hv, hb⟩
    have A2 := hid (fun str => at_err Ad str _ 1 1 w1 hv)
    have HB := hid (HW.out.trans (hb.mono HW.out.size))
    clear hv hb AC
    go_wp2_with fail
    refine (A2.out _).mono ?_
    rintro e w2 ⟨t2, q2, rfl, hv, hb⟩
    have HV := hid hv
    have HB2 := hid (HB.out.trans (hb.mono HB.out.size))
    clear hv hb A2
    go_wp2_with fail
    go_ret
    exact ⟨t2, q2, rfl, HV.out, HB2.out⟩
set_option maxHeartbeats 1600000 in
theorem note_state (h : Jn B W jb sv mv most []) (hE : Env8 W Ad) (u : Ue) (h0 : 1 ≤ u.k) (h9 : u.k ≤ 9) (hpv : ∃ ad n c, u.pv = .slice ad n c) :
    Calls Tryd.prog 14 #[.pointer (some ⟨jb, 0, none⟩), .agg #[.int .i64 u.k, .int .i64 u.id, .int .i64 u.p.c, .int .i64 u.p.v0, .int .i64 u.p.v1, .int .i64 u.p.v2, .int .i64 u.p.v3, .int .i64 u.p.t, u.pv, .int .i64 u.n, .int .i64 u.o]] W fun e W' => ∃ t q, e = .returned (.iface t q) ∧ Err Ad W' (.iface t q) 8 1 ∧ Below W.heap.size W W' := by
  obtain ⟨k, id, p, pv, ps, n, o⟩ := u
  obtain ⟨ad, nn, cc, rfl⟩ := hpv
  simp only at h0 h9 ⊢
  have HW := hid (bAl W (.cells #[.int .i64 k, .int .i64 id, .int .i64 p.c, .int .i64 p.v0, .int .i64 p.v1, .int .i64 p.v2, .int .i64 p.v3, .int .i64 p.t, .slice ad nn cc, .int .i64 n, .int .i64 o] 38))
  have c2' := hE.k8
  have hlt : 2 < W.heap.size := World.block_lt_of_cell? W _ c2'
  have hne : ¬ 2 = W.heap.size := by omega
  have c2 := h.c2
  obtain ⟨a, c, rfl⟩ := h.row.form
  have hjlt := h.lt
  have hjne : ¬ jb = W.heap.size := by omega
  have AC := hid (fun str => at_err Ad str _ 8 0 (W.alloc (.cells #[.int .i64 k, .int .i64 id, .int .i64 p.c, .int .i64 p.v0, .int .i64 p.v1, .int .i64 p.v2, .int .i64 p.v3, .int .i64 p.t, .slice ad nn cc, .int .i64 n, .int .i64 o] 38)) (err_leaf Ad _ 8 (by decide)))
  have g0 : ¬ k < 1 := by omega
  have g9 : ¬ 9 < k := by omega
  clear hE h h0 h9
  go_enter Tryd.func14, Tryd.ntmps14
  go_wp2_with fail
  refine (AC.out _).mono ?_
  rintro e w1 ⟨t, q, rfl, hv, hb⟩
  have HV := hid hv
  have HB := hid (HW.out.trans (hb.mono HW.out.size))
  clear hv hb AC
  go_wp2_with fail
  go_ret
  exact ⟨t, q, rfl, HV.out, HB.out⟩
/-- Note as far as whether an entry says nothing new. -/
theorem nonempty {a : List Sx} {s : Sx} : ∃ n, (a ++ [s]).length = n + 1 := ⟨a.length, by simp⟩
set_option maxHeartbeats 3200000 in
set_option maxRecDepth 100000 in
theorem note_old {a : List Sx} {s : Sx} (h : Jn B W jb sv mv most (a ++ [s])) (u : Ue) (hu : u.ok) (h0 : 1 ≤ u.k) (h9 : u.k ≤ 9) (hpv : ∃ ad n c, u.pv = .slice ad n c) (hk : knowsB s.l u = true) :
    Calls Tryd.prog 14 #[.pointer (some ⟨jb, 0, none⟩), .agg #[.int .i64 u.k, .int .i64 u.id, .int .i64 u.p.c, .int .i64 u.p.v0, .int .i64 u.p.v1, .int .i64 u.p.v2, .int .i64 u.p.v3, .int .i64 u.p.t, u.pv, .int .i64 u.n, .int .i64 u.o]] W fun e W' => e = .returned .nilIface ∧ Below W.heap.size W W' := by
  have KN := hid (fun W' (hb : Below W.heap.size W W') => knows_any (h.later hb) rfl u hu h0 h9 hpv)
  obtain ⟨k, id, p, pv, ps, n, o⟩ := u
  obtain ⟨ad, nn, cc, rfl⟩ := hpv
  simp only at h0 h9 KN ⊢
  rw [hk] at KN
  have HW := hid (bAl W (.cells #[.int .i64 k, .int .i64 id, .int .i64 p.c, .int .i64 p.v0, .int .i64 p.v1, .int .i64 p.v2, .int .i64 p.v3, .int .i64 p.t, .slice ad nn cc, .int .i64 n, .int .i64 o] 38))
  have c2 := h.c2
  have hlen := h.len
  obtain ⟨nl, hnl⟩ := @nonempty a s
  obtain ⟨ag, c, rfl⟩ := h.row.form
  rw [hnl] at c2 hlen
  have hli : (nl : Int) ≤ 1073741825 := by omega
  have hjlt := h.lt
  have hjne : ¬ jb = W.heap.size := by omega
  have g0 : ¬ k < 1 := by omega
  have g9 : ¬ 9 < k := by omega
  have gz : ((nl + 1 : Nat) : Int) ≠ 0 := by omega
  have gz' : ¬ ((nl : Int) + 1 = 0) := by omega
  have gz2 : ((nl : Int) + 1 == 0) = false := by simp; omega
  clear h h0 h9 hnl hk hu
  go_enter Tryd.func14, Tryd.ntmps14
  go_wp2_with fail
  refine (KN.out _ HW.out).mono ?_
  rintro e w1 ⟨rfl, hb⟩
  have HB := hid (HW.out.trans (hb.mono HW.out.size))
  clear hb KN
  go_wp2_with fail
  go_ret
  exact ⟨rfl, HB.out⟩
set_option maxHeartbeats 3200000 in
set_option maxRecDepth 100000 in
theorem note_full {a : List Sx} {s : Sx} (h : Jn B W jb sv mv most (a ++ [s])) (hE : Env8 W Ad) (u : Ue) (hu : u.ok) (h0 : 1 ≤ u.k) (h9 : u.k ≤ 9) (hpv : ∃ ad n c, u.pv = .slice ad n c) (hk : knowsB s.l u = false) (hf : tot (a ++ [s]) = most) :
    Calls Tryd.prog 14 #[.pointer (some ⟨jb, 0, none⟩), .agg #[.int .i64 u.k, .int .i64 u.id, .int .i64 u.p.c, .int .i64 u.p.v0, .int .i64 u.p.v1, .int .i64 u.p.v2, .int .i64 u.p.v3, .int .i64 u.p.t, u.pv, .int .i64 u.n, .int .i64 u.o]] W fun e W' => ∃ t q, e = .returned (.iface t q) ∧ Err Ad W' (.iface t q) 6 1 ∧ Below W.heap.size W W' := by
  have KN := hid (fun W' (hb : Below W.heap.size W W') => knows_any (h.later hb) rfl u hu h0 h9 hpv)
  obtain ⟨k, id, p, pv, ps, n, o⟩ := u
  obtain ⟨ad, nn, cc, rfl⟩ := hpv
  simp only at h0 h9 KN ⊢
  rw [hk] at KN
  have HW := hid (bAl W (.cells #[.int .i64 k, .int .i64 id, .int .i64 p.c, .int .i64 p.v0, .int .i64 p.v1, .int .i64 p.v2, .int .i64 p.v3, .int .i64 p.t, .slice ad nn cc, .int .i64 n, .int .i64 o] 38))
  have c2 := h.c2
  have hlen := h.len
  have HH := hid h
  have HE := hid hE
  obtain ⟨nl, hnl⟩ := @nonempty a s
  obtain ⟨ag, c, rfl⟩ := h.row.form
  rw [hnl] at c2 hlen
  have hli : (nl : Int) ≤ 1073741825 := by omega
  have hjlt := h.lt
  have hjne : ¬ jb = W.heap.size := by omega
  have g0 : ¬ k < 1 := by omega
  have g9 : ¬ 9 < k := by omega
  have gz' : ¬ ((nl : Int) + 1 = 0) := by omega
  have gz2 : ((nl : Int) + 1 == 0) = false := by simp; omega
  have HF := hid hf
  clear h h0 h9 hnl hk hu hE hf
  go_enter Tryd.func14, Tryd.ntmps14
  go_wp2_with fail
  refine (KN.out _ HW.out).mono ?_
  rintro e w1 ⟨rfl, hb⟩
  have HB := hid (HW.out.trans (hb.mono HW.out.size))
  have j1 := HH.out.later HB.out
  have d0 := j1.c0
  have d1 := j1.c1
  rw [HF.out] at d1
  clear hb KN j1 c2
  go_wp2_with fail
  go_quiet (fail)
  obtain ⟨w2, hw2⟩ : ∃ w2, w2 = w1.drewN nq := ⟨_, rfl⟩
  rw [← hw2]
  have B2 := hid (HB.out.trans ((show Below w1.heap.size w1 w2 by rw [hw2]; exact drewN_below _ _).mono HB.out.size))
  have c6 := (HE.out.later B2.out).k6
  have AC := hid (fun str => at_err Ad str _ 6 0 w2 (err_leaf Ad _ 6 (by decide)))
  clear hw2 d0 d1
  go_wp2_with fail
  refine (AC.out _).mono ?_
  rintro e w3 ⟨t, q, rfl, hv, hb⟩
  have HV := hid hv
  have HB3 := hid (B2.out.trans (hb.mono B2.out.size))
  clear hv hb AC
  go_wp2_with fail
  go_ret
  exact ⟨t, q, rfl, HV.out, HB3.out⟩
set_option maxHeartbeats 3200000 in
set_option maxRecDepth 100000 in
theorem note_ok {a : List Sx} {s : Sx} (h : Jn B W jb sv mv most (a ++ [s])) (hB : B ≤ W.heap.size) (u : Ue) (hu : u.ok) (h0 : 1 ≤ u.k) (h9 : u.k ≤ 9) (hp : PSrc W u.pv u.ps) (hps : u.ps.length ≤ 1000) (hk : knowsB s.l u = false) (hf : tot (a ++ [s]) < most) :
    Calls Tryd.prog 14 #[.pointer (some ⟨jb, 0, none⟩), .agg #[.int .i64 u.k, .int .i64 u.id, .int .i64 u.p.c, .int .i64 u.p.v0, .int .i64 u.p.v1, .int .i64 u.p.v2, .int .i64 u.p.v3, .int .i64 u.p.t, u.pv, .int .i64 u.n, .int .i64 u.o]] W fun e W' => e = .returned .nilIface ∧ ∃ v' ev', Jn B W' jb sv mv most (a ++ [⟨s.f, ev', s.l ++ [u.with v']⟩]) ∧ St (Fn jb sv mv s) W W' := by
  have hpv := hp.form
  have KN := hid (fun W' (hb : Below W.heap.size W W') => knows_any (h.later hb) rfl u hu h0 h9 hpv)
  have AD := hid (fun W' (hb : Below W.heap.size W W') => add_any (h.later hb) (Nat.le_trans hB hb.size) u hu h0 h9 (hp.later hb) hps hf)
  obtain ⟨k, id, p, pv, ps, n, o⟩ := u
  obtain ⟨ad, nn, cc, rfl⟩ := hpv
  simp only at h0 h9 KN AD ⊢
  rw [hk] at KN
  obtain ⟨wa, hwa⟩ : ∃ wa, wa = W.alloc (.cells #[.int .i64 k, .int .i64 id, .int .i64 p.c, .int .i64 p.v0, .int .i64 p.v1, .int .i64 p.v2, .int .i64 p.v3, .int .i64 p.t, .slice ad nn cc, .int .i64 n, .int .i64 o] 38) := ⟨_, rfl⟩
  have HW : Hid (Below W.heap.size W wa) := by rw [hwa]; exact bAl W _
  have HX : Hid (wa.heap[W.heap.size]? = some (.cells #[.int .i64 k, .int .i64 id, .int .i64 p.c, .int .i64 p.v0, .int .i64 p.v1, .int .i64 p.v2, .int .i64 p.v3, .int .i64 p.t, .slice ad nn cc, .int .i64 n, .int .i64 o] 38 (0, 0))) := by rw [hwa]; exact heap_alloc_new W _
  have HWA := hid hwa
  have x0 := cell_blk (j := 0) HX.out rfl
  have x1 := cell_blk (j := 1) HX.out rfl
  have x2 := cell_blk (j := 2) HX.out rfl
  have x3 := cell_blk (j := 3) HX.out rfl
  have x4 := cell_blk (j := 4) HX.out rfl
  have x5 := cell_blk (j := 5) HX.out rfl
  have x6 := cell_blk (j := 6) HX.out rfl
  have x7 := cell_blk (j := 7) HX.out rfl
  have x8 := cell_blk (j := 8) HX.out rfl
  have x9 := cell_blk (j := 9) HX.out rfl
  have x10 := cell_blk (j := 10) HX.out rfl
  have c2 := seen HW.out (Nat.le_refl _) h.c2
  have hlen := h.len
  have HH := hid h
  obtain ⟨nl, hnl⟩ := @nonempty a s
  obtain ⟨ag, c, rfl⟩ := h.row.form
  rw [hnl] at c2 hlen
  have hli : (nl : Int) ≤ 1073741825 := by omega
  have g0 : ¬ k < 1 := by omega
  have g9 : ¬ 9 < k := by omega
  have gz' : ¬ ((nl : Int) + 1 = 0) := by omega
  have gz2 : ((nl : Int) + 1 == 0) = false := by simp; omega
  have hfi : ¬ ((tot (a ++ [s]) : Int) = (most : Int)) := by omega
  have hfb : ((tot (a ++ [s]) : Int) == (most : Int)) = false := by simp; omega
  clear h h0 h9 hnl hk hu hf hwa hB hp hps
  go_enter Tryd.func14, Tryd.ntmps14
  go_upto_region 1 with fail
  rw [← HWA.out]
  clear HWA
  go_wp2_with fail
  refine (KN.out _ HW.out).mono ?_
  rintro e w1 ⟨rfl, hb⟩
  have HB := hid (HW.out.trans (hb.mono HW.out.size))
  have X1 := hid (blk_seen hb (Nat.le_refl _) HX.out)
  have j1 := HH.out.later HB.out
  have d0 := j1.c0
  have d1 := j1.c1
  clear hb KN j1 c2 HX x0 x1 x2 x3 x4 x5 x6 x7 x8 x9 x10
  go_wp2_with fail
  go_quiet (fail)
  obtain ⟨w2, hw2⟩ : ∃ w2, w2 = w1.drewN nq := ⟨_, rfl⟩
  rw [← hw2]
  have q2 : Below w1.heap.size w1 w2 := by rw [hw2]; exact drewN_below _ _
  have B2 := hid (HB.out.trans (q2.mono HB.out.size))
  have X2 := blk_seen q2 (Nat.le_refl _) X1.out
  have x0 := cell_blk (j := 0) X2 rfl
  have x1 := cell_blk (j := 1) X2 rfl
  have x2 := cell_blk (j := 2) X2 rfl
  have x3 := cell_blk (j := 3) X2 rfl
  have x4 := cell_blk (j := 4) X2 rfl
  have x5 := cell_blk (j := 5) X2 rfl
  have x6 := cell_blk (j := 6) X2 rfl
  have x7 := cell_blk (j := 7) X2 rfl
  have x8 := cell_blk (j := 8) X2 rfl
  have x9 := cell_blk (j := 9) X2 rfl
  have x10 := cell_blk (j := 10) X2 rfl
  clear hw2 d0 d1 q2 X2 X1
  go_wp2_with fail
  refine (AD.out _ B2.out).mono ?_
  rintro e w3 ⟨rfl, v', ev', hJ, hS⟩
  have HJ := hid hJ
  have HS := hid hS
  clear hJ hS AD
  go_wp2_with fail
  go_ret
  exact ⟨rfl, v', ev', HJ.out, (St.of_below (S := Fn jb (.slice ag (a ++ [s]).length c) mv s) B2.out).trans HS.out fun _ _ q => q⟩
end
end Go.Proofs.YtnbgjbdbbmpoaaaDoor.Jo
