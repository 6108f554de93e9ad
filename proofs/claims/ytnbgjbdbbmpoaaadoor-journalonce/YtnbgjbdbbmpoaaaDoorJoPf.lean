/- JournalOnce. -/
import Derived.Test.YtnbgjbdbbmpoaaaDoorJoPe
namespace Go.Proofs.YtnbgjbdbbmpoaaaDoor.Jo
open Go.RowKit Go.Shelf Go.Maps
set_option maxHeartbeats 6400000 in
set_option maxRecDepth 100000 in
theorem once_law (W : World) (Ad : Nat → Addr) (hE : Env8 W Ad) (times : Int) (u : Ue) (hu : u.ok) (hpv : ∃ ad n c, u.pv = .slice ad n c) :
    Calls Tryd.prog 5 #[.int .i64 times, .agg #[.int .i64 u.k, .int .i64 u.id, .int .i64 u.p.c, .int .i64 u.p.v0, .int .i64 u.p.v1, .int .i64 u.p.v2, .int .i64 u.p.v3, .int .i64 u.p.t, u.pv, .int .i64 u.n, .int .i64 u.o]] W fun e W' => e = .returned (.bool true) ∧ Below W.heap.size W W' := by
  obtain ⟨uk, id, ⟨c, v0, v1, v2, v3, t⟩, pv, ps, n, o⟩ := u
  obtain ⟨i1, i2, i3⟩ := hu
  simp only at hpv i1 i2 i3
  obtain ⟨ad, pn, pc, rfl⟩ := hpv
  obtain ⟨W0, hW0⟩ : ∃ W0, W0 = W.alloc (.cells #[.int .i64 uk, .int .i64 id, .int .i64 c, .int .i64 v0, .int .i64 v1, .int .i64 v2, .int .i64 v3, .int .i64 t, .slice ad pn pc, .int .i64 n, .int .i64 o] 38) := ⟨_, rfl⟩
  have b0 : Below W.heap.size W W0 := by rw [hW0]; exact bAl _ _
  have k0 : W0.heap[W.heap.size]? = some (.cells #[.int .i64 uk, .int .i64 id, .int .i64 c, .int .i64 v0, .int .i64 v1, .int .i64 v2, .int .i64 v3, .int .i64 t, .slice ad pn pc, .int .i64 n, .int .i64 o] 38 (0, 0)) := by rw [hW0]; exact heap_alloc_new W _
  have HW0 := hid hW0
  have B0 := hid b0
  have K0 := hid k0
  have AW := hid (awake_any Ad W0 (hE.later b0))
  obtain ⟨u2, nn, hnn, hu2, hr2⟩ := rem_at times 60 (by decide)
  have hr3 : u2.tmod 60 = (nn : Int) := hr2
  have hnni : (nn : Int) ≤ 59 := by omega
  have I1 := hid i1
  have I2 := hid i2
  have I3 := hid i3
  clear hE b0 hW0 k0 i1 i2 i3 hr2
  go_enter Tryd.func5, Tryd.ntmps5
  go_upto_region 1 with fail
  rw [← HW0.out]
  clear HW0
  go_wp2_with fail
  refine AW.out.mono ?_
  rintro e w1 ⟨rfl, b1⟩
  have B1 := hid (B0.out.trans (b1.mono B0.out.size))
  have NW := hid (wn_new w1 100 (by decide) (by decide))
  have k1 := blk_seen b1 (Nat.le_refl _) K0.out
  have K1 := hid k1
  clear AW b1 K0 k1
  go_wp2_with fail
  refine NW.out.mono ?_
  rintro e w2 ⟨rfl, h2, b2⟩
  have k2 := blk_seen b2 (Nat.le_refl _) K1.out
  have c1 : w2.cell? ⟨W.heap.size, 1, none⟩ = some (.int .i64 id) := cell_blk k2 rfl
  have c2 : w2.cell? ⟨W.heap.size, 2, none⟩ = some (.int .i64 c) := cell_blk k2 rfl
  have c9 : w2.cell? ⟨W.heap.size, 9, none⟩ = some (.int .i64 n) := cell_blk k2 rfl
  have N2 := hid h2
  have B2 := hid (B1.out.trans (b2.mono B1.out.size))
  have J2 : Hid (w1.heap.size < w2.heap.size) := (h2 0).lt
  have Z1 := hid B1.out.size
  clear NW K1 k2 h2 b2
  go_upto_region 8 with fail
  have U1 := hid (es5_row id c n w2)
  have NN := hid (N2.out.later (bAl w2 (.cells #[.int .i64 1, .int .i64 id, .int .i64 c, .int .i64 0, .int .i64 0, .int .i64 0, .int .i64 0, .int .i64 1, .slice none 0 0, .int .i64 0, .int .i64 0,
    .int .i64 6, .int .i64 0, .int .i64 0, .int .i64 0, .int .i64 0, .int .i64 0, .int .i64 0, .int .i64 0, .slice none 0 0, .int .i64 n, .int .i64 1,
    .int .i64 7, .int .i64 0, .int .i64 0, .int .i64 0, .int .i64 0, .int .i64 0, .int .i64 0, .int .i64 0, .slice none 0 0, .int .i64 0, .int .i64 1,
    .int .i64 8, .int .i64 0, .int .i64 0, .int .i64 0, .int .i64 0, .int .i64 0, .int .i64 0, .int .i64 0, .slice none 0 0, .int .i64 0, .int .i64 1,
    .int .i64 9, .int .i64 0, .int .i64 0, .int .i64 0, .int .i64 0, .int .i64 0, .int .i64 0, .int .i64 0, .slice none 0 0, .int .i64 0, .int .i64 1] 38)))
  have B3 := hid (B2.out.trans ((bAl w2 (.cells #[.int .i64 1, .int .i64 id, .int .i64 c, .int .i64 0, .int .i64 0, .int .i64 0, .int .i64 0, .int .i64 1, .slice none 0 0, .int .i64 0, .int .i64 0,
    .int .i64 6, .int .i64 0, .int .i64 0, .int .i64 0, .int .i64 0, .int .i64 0, .int .i64 0, .int .i64 0, .slice none 0 0, .int .i64 n, .int .i64 1,
    .int .i64 7, .int .i64 0, .int .i64 0, .int .i64 0, .int .i64 0, .int .i64 0, .int .i64 0, .int .i64 0, .slice none 0 0, .int .i64 0, .int .i64 1,
    .int .i64 8, .int .i64 0, .int .i64 0, .int .i64 0, .int .i64 0, .int .i64 0, .int .i64 0, .int .i64 0, .slice none 0 0, .int .i64 0, .int .i64 1,
    .int .i64 9, .int .i64 0, .int .i64 0, .int .i64 0, .int .i64 0, .int .i64 0, .int .i64 0, .int .i64 0, .slice none 0 0, .int .i64 0, .int .i64 1] 38)).mono B2.out.size))
  obtain ⟨W1, hW1⟩ : ∃ W1, W1 = w2.alloc (.cells #[.int .i64 1, .int .i64 id, .int .i64 c, .int .i64 0, .int .i64 0, .int .i64 0, .int .i64 0, .int .i64 1, .slice none 0 0, .int .i64 0, .int .i64 0,
    .int .i64 6, .int .i64 0, .int .i64 0, .int .i64 0, .int .i64 0, .int .i64 0, .int .i64 0, .int .i64 0, .slice none 0 0, .int .i64 n, .int .i64 1,
    .int .i64 7, .int .i64 0, .int .i64 0, .int .i64 0, .int .i64 0, .int .i64 0, .int .i64 0, .int .i64 0, .slice none 0 0, .int .i64 0, .int .i64 1,
    .int .i64 8, .int .i64 0, .int .i64 0, .int .i64 0, .int .i64 0, .int .i64 0, .int .i64 0, .int .i64 0, .slice none 0 0, .int .i64 0, .int .i64 1,
    .int .i64 9, .int .i64 0, .int .i64 0, .int .i64 0, .int .i64 0, .int .i64 0, .int .i64 0, .int .i64 0, .slice none 0 0, .int .i64 0, .int .i64 1] 38) := ⟨_, rfl⟩
  rw [← hW1] at U1 NN B3
  rw [← hW1]
  clear hW1 c1 c2 c9 N2 hu2 hr3
  obtain ⟨N, hN⟩ : ∃ N, nn + 1 = N := ⟨_, rfl⟩
  have eN : (1 : Int) + (nn : Int) = (N : Int) := by omega
  rw [eN]
  have hN1 : 1 ≤ N := by omega
  have hNi : (N : Int) ≤ 60 := by omega
  clear eN hN
  have A1 := hid (NN.out.wj)
  obtain ⟨jb, hjb⟩ : ∃ jb, jb = w1.heap.size := ⟨_, rfl⟩
  obtain ⟨lb, hlb⟩ : ∃ lb, lb = w2.heap.size := ⟨_, rfl⟩
  have HNE : Hid (lb ≠ jb) := by have := J2.out; show _ ≠ _; omega
  have HJL : Hid (W.heap.size ≤ jb) := by have := Z1.out; show _ ≤ _; omega
  rw [← hlb] at U1
  rw [← hjb] at A1
  rw [← hjb, ← hlb]
  clear hjb hlb NN J2 Z1 B0 B1 B2
  have UL : Hid (∀ p wz, Wj W1 jb 100 p wz → Us lb wz (.slice (some ⟨lb, 0, none⟩) 5 5) (es5 id c n)) := fun p wz h => U1.out.row5 h HNE.out fun u hu => by
    obtain ⟨k, hk⟩ := List.getElem?_of_mem hu
    exact (es5_form hk).1
  clear U1
  go_wp2_with fail
  go_loopg [9, 10, 11, 12, 13, 14, 15] 2 (fun gh s9 _ _ _ _ _ _ wr => ∃ f : Nat, f ≤ 2 ∧ gh = 2 - f ∧ s9 = .int .i64 (f : Int) ∧ Hid (Wj W1 jb 100 (pf5 id c n f) wr))
  case atStart => exact ⟨0, by omega, rfl, rfl, A1.out⟩
  case round =>
    clear A1
    rename World => wr
    obtain ⟨f, hf, rfl, rfl, HA⟩ := hrel
    by_cases hlt : f < 2
    · have hfi : (f : Int) < 2 := by omega
      have GM := hid (wj_mark HA.out (f : Int) (by omega) (by omega) (pf5_above id c n f))
      go_wp2_with fail
      refine GM.out.mono ?_
      rintro e w3 ⟨rfl, h3, -⟩
      have A3 : Hid (Wj W1 jb 100 (pf5 id c n f ++ [((f : Int), ls5 id c n 0 0)]) w3) := h3
      clear GM h3 HA
      go_wp2_with fail
      go_loopg [10, 11, 12] N (fun gh s10 _ _ wz => ∃ i : Nat, i ≤ N ∧ gh = N - i ∧ s10 = .int .i64 (i : Int) ∧ Hid (Wj W1 jb 100 (pf5 id c n f ++ [((f : Int), ls5 id c n i 0)]) wz))
      case atStart => exact ⟨0, by omega, rfl, rfl, A3.out⟩
      case round =>
        clear A3
        rename World => wz
        obtain ⟨i, hi, rfl, rfl, HA⟩ := hrel
        by_cases hiN : i < N
        · have hii : (i : Int) < (N : Int) := by omega
          go_wp2_with fail
          go_loopg [11, 12] 5 (fun gh s11 _ wy => ∃ k : Nat, k ≤ 5 ∧ gh = 5 - k ∧ s11 = .int .i64 (k : Int) ∧ Hid (Wj W1 jb 100 (pf5 id c n f ++ [((f : Int), ls5 id c n i k)]) wy))
          case atStart => exact ⟨0, by omega, rfl, rfl, HA.out⟩
          case round =>
            clear HA
            rename World => wy
            obtain ⟨k, hk, rfl, rfl, HA⟩ := hrel
            by_cases hk5 : k < 5
            · have hki : (k : Int) < 5 := by omega
              obtain ⟨y, hy⟩ := at_lt (es5 id c n) k hk5
              obtain ⟨q1, q2, -, -, q5, q6, q7, q8, -⟩ := es5_form hy
              obtain ⟨g, eg, el, -⟩ := (UL.out _ _ HA.out).el (l := es5 id c n) hy
              obtain rfl : lb = g := by simpa using eg
              have NT : Hid (∀ wx, Below wy.heap.size wy wx → Calls Tryd.prog 14 #[.pointer (some ⟨jb, 0, none⟩), .agg #[.int .i64 y.k, .int .i64 y.id, .int .i64 y.p.c, .int .i64 y.p.v0, .int .i64 y.p.v1, .int .i64 y.p.v2, .int .i64 y.p.v3, .int .i64 (y.p.t + (i : Int)), y.pv, .int .i64 y.n, .int .i64 (y.o + (i : Int))]] wx fun e w' => e = .returned .nilIface ∧ Wj W1 jb 100 (pf5 id c n f ++ [((f : Int), ls5 id c n i (k + 1))]) w') := fun wx hb => once_note I1.out I2.out I3.out (by omega) (HA.out.later hb) hy
              rw [q1] at NT
              obtain ⟨e0, e1, e2, e3, e4, e5, e6, e7, e8, e9, e10⟩ := el
              rw [q1] at e8
              have s1 : IntKind.i64.wrap (y.p.t + (i : Int)) = y.p.t + (i : Int) := wrap_mid (by omega) (by omega)
              have s2 : IntKind.i64.wrap (y.o + (i : Int)) = y.o + (i : Int) := wrap_mid (by omega) (by omega)
              have hlt5 : lb < wy.heap.size := World.block_lt_of_cell? wy _ e0
              clear hy q1 q2 eg
              obtain ⟨yk, yid, ⟨yc, y0, y1, y2, y3, yt⟩, ypv, yps, yn, yo⟩ := y
              simp only at NT e0 e1 e2 e3 e4 e5 e6 e7 e8 e9 e10 s1 s2 q5 q6 q7 q8
              clear HA
              go_upto_region 22 with fail
              go_wp2_with (refine (NT.out _ (bAl _ _)).mono ?_)
              rintro e w5 ⟨rfl, h5⟩
              have A5 := hid h5
              clear NT h5 e0 e1 e2 e3 e4 e5 e6 e7 e8 e9 e10 s1 s2 q5 q6 q7 q8 hlt5
              go_wp2_with fail
              go_roundg (5 - (k + 1))
              case measure => omega
              case rel => exact ⟨k + 1, by omega, rfl, by go_num, A5.out⟩
            · obtain rfl : k = 5 := by omega
              have A6 : Hid (Wj W1 jb 100 (pf5 id c n f ++ [((f : Int), ls5 id c n (i + 1) 0)]) wy) := by
                show Wj _ _ _ _ _
                rw [ls5_next, ← ls5_end id c n i]
                exact HA.out
              clear HA
              go_wp2_with fail
              go_roundg (N - (i + 1))
              case measure => omega
              case rel => exact ⟨i + 1, by omega, rfl, by go_num, A6.out⟩
        · obtain rfl : i = N := by omega
          have hii : ¬ (i : Int) < (i : Int) := by omega
          have A6 : Hid (Wj W1 jb 100 (pf5 id c n (f + 1)) wz) := by
            show Wj _ _ _ _ _
            obtain ⟨i', rfl⟩ : ∃ i', i = i' + 1 := ⟨i - 1, by omega⟩
            rw [pf5_succ, ← ls5_next id c n i']
            exact HA.out
          have GS := hid (wj_since A6.out (by rw [pf5_len]; omega) (f : Int) (pf5_marked id c n f))
          rw [pf5_at, pf5_acc] at GS
          clear HA
          go_wp2_with fail
          refine GS.out.mono ?_
          rintro e w6 ⟨lv, l, rfl, hu6, hl6, b6⟩
          obtain ⟨al, cl, rfl⟩ := hu6.form
          have hll : l.length = 5 := by have := congrArg List.length hl6; simpa [es5] using this
          have U6 := hid hu6
          have L6 := hid hl6
          have A7 := hid (A6.out.later b6)
          rw [hll]
          have GL := hid (wj_len A7.out)
          rw [pf5_tot] at GL
          obtain ⟨M, hM⟩ : ∃ M, 5 * (f + 1) = M := ⟨_, rfl⟩
          rw [hM] at GL
          have hmul : (5 : Int) * ((f : Int) + 1) = (M : Int) := by omega
          have hwM : IntKind.i64.wrap (M : Int) = (M : Int) := wrap_mid (by omega) (by omega)
          have hwf : IntKind.i64.wrap ((f : Int) + 1) = (f : Int) + 1 := wrap_mid (by omega) (by omega)
          have HLL := hid hll
          clear GS hu6 hl6 b6 A6 hM hll
          go_wp2_with fail
          refine GL.out.mono ?_
          rintro e w7 ⟨rfl, hq⟩
          subst hq
          clear GL
          go_wp2_with fail
          clear hmul hwM
          go_loopg [15] 5 (fun gh s15 wy => ∃ k : Nat, k ≤ 5 ∧ gh = 5 - k ∧ s15 = .int .i64 (k : Int) ∧ Hid (Below w7.heap.size w7 wy))
          case atStart => exact ⟨0, by omega, rfl, rfl, Below.refl _ _⟩
          case round =>
            rename World => wy
            obtain ⟨k, hk, rfl, rfl, HB⟩ := hrel
            by_cases hk5 : k < 5
            · have hki : (k : Int) < 5 := by omega
              obtain ⟨r, hr⟩ : ∃ r, 4 - k = r := ⟨_, rfl⟩
              have hri : (4 : Int) - (k : Int) = (r : Int) := by omega
              have hwr : IntKind.i64.wrap (r : Int) = (r : Int) := wrap_mid (by omega) (by omega)
              have hr5 : (r : Int) < 5 := by omega
              have hr0 : (0 : Int) ≤ (r : Int) := by omega
              obtain ⟨x, hx⟩ := at_lt l k (by rw [HLL.out]; exact hk5)
              obtain ⟨y, hy⟩ := at_lt (es5 id c n) r (show r < 5 by omega)
              obtain ⟨q1, q2, -, -, -, -, -, -, q9⟩ := es5_form hy
              have hxy : x.bare = y := by
                have e1 : (l.map Ue.bare)[k]? = some x.bare := by simp [hx]
                rw [L6.out, es5_rev hk5, hr, hy] at e1
                simpa using e1.symm
              have hyx : y = x.with (.slice none 0 0) := by rw [← q1]; exact ue_with (by rw [q9]; exact hxy)
              have hps : x.ps = [] := by rw [← q2, ← hxy]; rfl
              subst hyx
              have U7 : Us w7.heap.size w7 (.slice al l.length cl) l → True := fun _ => trivial
              have KK0 : ∀ W', Below wy.heap.size wy W' → (∃ g, al = some ⟨g, 0, none⟩ ∧ Elev W' g (k * 11) x ∧ PRow W' x.pv x.ps) ∧ Elev W' lb (r * 11) (x.with (.slice none 0 0)) := fun W' hb => by
                have hb2 := HB.out.trans (hb.mono HB.out.size)
                refine ⟨(U6.out.later hb2).el hx, ?_⟩
                obtain ⟨g, eg, el, -⟩ := (UL.out _ _ (A7.out.later hb2)).el (l := es5 id c n) hy
                obtain rfl : lb = g := by simpa using eg
                exact el
              obtain ⟨⟨g, rfl, -, ⟨pa, pcp, hpvx, -⟩⟩, -⟩ := KK0 wy (Below.refl _ _)
              obtain ⟨xk, xid, ⟨xc, x0, x1, x2, x3, xt⟩, xpv, xps, xn, xo⟩ := x
              simp only at hps hpvx
              subst hps
              subst hpvx
              have KK : Hid (∀ W', Below wy.heap.size wy W' → (W'.cell? ⟨g, k * 11, none⟩ = some (.int .i64 xk) ∧ W'.cell? ⟨g, k * 11 + 1, none⟩ = some (.int .i64 xid) ∧ W'.cell? ⟨g, k * 11 + 2, none⟩ = some (.int .i64 xc) ∧ W'.cell? ⟨g, k * 11 + 3, none⟩ = some (.int .i64 x0) ∧ W'.cell? ⟨g, k * 11 + 4, none⟩ = some (.int .i64 x1) ∧ W'.cell? ⟨g, k * 11 + 5, none⟩ = some (.int .i64 x2) ∧ W'.cell? ⟨g, k * 11 + 6, none⟩ = some (.int .i64 x3) ∧ W'.cell? ⟨g, k * 11 + 7, none⟩ = some (.int .i64 xt) ∧ W'.cell? ⟨g, k * 11 + 8, none⟩ = some (.slice pa 0 pcp) ∧ W'.cell? ⟨g, k * 11 + 9, none⟩ = some (.int .i64 xn) ∧ W'.cell? ⟨g, k * 11 + 10, none⟩ = some (.int .i64 xo)) ∧ (W'.cell? ⟨lb, r * 11, none⟩ = some (.int .i64 xk) ∧ W'.cell? ⟨lb, r * 11 + 1, none⟩ = some (.int .i64 xid) ∧ W'.cell? ⟨lb, r * 11 + 2, none⟩ = some (.int .i64 xc) ∧ W'.cell? ⟨lb, r * 11 + 3, none⟩ = some (.int .i64 x0) ∧ W'.cell? ⟨lb, r * 11 + 4, none⟩ = some (.int .i64 x1) ∧ W'.cell? ⟨lb, r * 11 + 5, none⟩ = some (.int .i64 x2) ∧ W'.cell? ⟨lb, r * 11 + 6, none⟩ = some (.int .i64 x3) ∧ W'.cell? ⟨lb, r * 11 + 7, none⟩ = some (.int .i64 xt) ∧ W'.cell? ⟨lb, r * 11 + 8, none⟩ = some (.slice none 0 0) ∧ W'.cell? ⟨lb, r * 11 + 9, none⟩ = some (.int .i64 xn) ∧ W'.cell? ⟨lb, r * 11 + 10, none⟩ = some (.int .i64 xo))) := fun W' hb => by
                obtain ⟨⟨g2, e2, el, -⟩, el2⟩ := KK0 W' hb
                obtain rfl : g = g2 := by simpa using e2
                exact ⟨el, el2⟩
              have CS : Hid (∀ W', Below wy.heap.size wy W' → Calls Tryd.prog 27 #[.agg #[.int .i64 xk, .int .i64 xid, .int .i64 xc, .int .i64 x0, .int .i64 x1, .int .i64 x2, .int .i64 x3, .int .i64 xt, .slice pa 0 pcp, .int .i64 xn, .int .i64 xo], .agg #[.int .i64 xk, .int .i64 xid, .int .i64 xc, .int .i64 x0, .int .i64 x1, .int .i64 x2, .int .i64 x3, .int .i64 xt, .slice none 0 0, .int .i64 xn, .int .i64 xo]] W' fun e w => e = .returned (.bool true) ∧ Below wy.heap.size wy w) := fun W' hb => by
                obtain ⟨⟨g2, e2, -, hp⟩, -⟩ := KK0 W' hb
                exact (jsame_any W' ⟨xk, xid, ⟨xc, x0, x1, x2, x3, xt⟩, .slice pa 0 pcp, [], xn, xo⟩ (.slice none 0 0) hp ⟨none, 0, rfl, .inl rfl⟩ (by simp)).mono fun _ _ q => ⟨q.1, hb.trans (q.2.mono hb.size)⟩
              clear KK0 hx hy q1 q2 q9 hxy U7 hr
              have hw4 : IntKind.i64.wrap 4 = 4 := wrap_mid (by omega) (by omega)
              have hw51 : IntKind.i64.wrap (5 - 1) = 4 := wrap_mid (by omega) (by omega)
              go_upto_region 30 with fail
              go_region_held3 (fun W' => (W'.cell? ⟨g, k * 11, none⟩ = some (.int .i64 xk) ∧ W'.cell? ⟨g, k * 11 + 1, none⟩ = some (.int .i64 xid) ∧ W'.cell? ⟨g, k * 11 + 2, none⟩ = some (.int .i64 xc) ∧ W'.cell? ⟨g, k * 11 + 3, none⟩ = some (.int .i64 x0) ∧ W'.cell? ⟨g, k * 11 + 4, none⟩ = some (.int .i64 x1) ∧ W'.cell? ⟨g, k * 11 + 5, none⟩ = some (.int .i64 x2) ∧ W'.cell? ⟨g, k * 11 + 6, none⟩ = some (.int .i64 x3) ∧ W'.cell? ⟨g, k * 11 + 7, none⟩ = some (.int .i64 xt) ∧ W'.cell? ⟨g, k * 11 + 8, none⟩ = some (.slice pa 0 pcp) ∧ W'.cell? ⟨g, k * 11 + 9, none⟩ = some (.int .i64 xn) ∧ W'.cell? ⟨g, k * 11 + 10, none⟩ = some (.int .i64 xo)) ∧ (W'.cell? ⟨lb, r * 11, none⟩ = some (.int .i64 xk) ∧ W'.cell? ⟨lb, r * 11 + 1, none⟩ = some (.int .i64 xid) ∧ W'.cell? ⟨lb, r * 11 + 2, none⟩ = some (.int .i64 xc) ∧ W'.cell? ⟨lb, r * 11 + 3, none⟩ = some (.int .i64 x0) ∧ W'.cell? ⟨lb, r * 11 + 4, none⟩ = some (.int .i64 x1) ∧ W'.cell? ⟨lb, r * 11 + 5, none⟩ = some (.int .i64 x2) ∧ W'.cell? ⟨lb, r * 11 + 6, none⟩ = some (.int .i64 x3) ∧ W'.cell? ⟨lb, r * 11 + 7, none⟩ = some (.int .i64 xt) ∧ W'.cell? ⟨lb, r * 11 + 8, none⟩ = some (.slice none 0 0) ∧ W'.cell? ⟨lb, r * 11 + 9, none⟩ = some (.int .i64 xn) ∧ W'.cell? ⟨lb, r * 11 + 10, none⟩ = some (.int .i64 xo)))
                (first | exact KK.out _ (by assumption) | exact KK.out _ (Below.refl _ _).drew | exact KK.out _ (Below.refl _ _))
                (first
                  | (go_at_call 27; refine (CS.out _ (by first | assumption | exact (Below.refl _ _).drew | exact Below.refl _ _)).mono ?_; rintro e w9 ⟨rfl, hb9⟩))
              all_goals
                have BF := hid (HB.out.trans (hb9.mono HB.out.size))
                clear KK CS hw4 hw51 hwr hri
                go_wp2_with fail
                go_roundg (5 - (k + 1))
                case measure => omega
                case rel => exact ⟨k + 1, by omega, rfl, by go_num, BF.out⟩
            · obtain rfl : k = 5 := by omega
              have A8 := hid (A7.out.later HB.out)
              clear A7 U6 L6
              go_wp2_with fail
              go_roundg (2 - (f + 1))
              case measure => omega
              case rel => exact ⟨f + 1, by omega, rfl, by go_num, A8.out⟩
    · obtain rfl : f = 2 := by omega
      have BF := hid (HA.out.from B3.out HJL.out)
      go_wp2_with fail
      go_ret
      exact ⟨rfl, BF.out⟩
end Go.Proofs.YtnbgjbdbbmpoaaaDoor.Jo
