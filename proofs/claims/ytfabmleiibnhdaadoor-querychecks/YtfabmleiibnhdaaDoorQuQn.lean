/- QueryChecks: the walk. -/
import Derived.Test.YtfabmleiibnhdaaDoorQuQm
import Derived.Test.YtfabmleiibnhdaaDoorQuQl
namespace Go.Proofs.YtfabmleiibnhdaaDoor.Qu
open Go.RowKit Go.Shelf Go.Maps
open Go.Proofs.YtfabmleiibnhdaaDoor.At (St bAl cell_blk blk_seen blk_free an wi)
open Go.Proofs.YtfabmleiibnhdaaDoor.Rs (Prt Prts PRow)
open Go.Proofs.YtfabmleiibnhdaaDoor.Sc (Cmp CmpRow)
theorem three_blk (W : World) (a b c : Array Value) (e f g : TypeId) : Below W.heap.size W (((W.alloc (.cells a e)).alloc (.cells b f)).alloc (.cells c g)) ∧ (((W.alloc (.cells a e)).alloc (.cells b f)).alloc (.cells c g)).heap[W.heap.size]? = some (.cells a e (0, 0)) ∧ (((W.alloc (.cells a e)).alloc (.cells b f)).alloc (.cells c g)).heap[W.heap.size + 1]? = some (.cells b f (0, 0)) ∧ (((W.alloc (.cells a e)).alloc (.cells b f)).alloc (.cells c g)).heap[W.heap.size + 2]? = some (.cells c g (0, 0)) := by
  obtain ⟨b1, r1, p1⟩ := two_blk W a b e f
  have b2 := bAl ((W.alloc (.cells a e)).alloc (.cells b f)) (.cells c g)
  refine ⟨b1.trans (b2.mono b1.size), blk_seen b2 (Nat.le_refl _) r1, blk_seen b2 (Nat.le_refl _) p1, ?_⟩
  have := heap_alloc_new ((W.alloc (.cells a e)).alloc (.cells b f)) (.cells c g)
  simpa using this
theorem leaf_at : ∀ (ls : List (List ByteArray × Nat)) (k : Nat) (p : List ByteArray × Nat), ls[k]? = some p → (leafCells ls)[k * 2]? = some (.string (joinB p.1)) ∧ (leafCells ls)[k * 2 + 1]? = some (.int .i64 (p.2 : Int)) := by
  intro ls
  induction ls with
  | nil => intro k p h; simp at h
  | cons x ls ih =>
    intro k p h
    have e : leafCells (x :: ls) = [.string (joinB x.1), .int .i64 (x.2 : Int)] ++ leafCells ls := by simp [leafCells]
    rw [e]
    cases k with
    | zero => simp at h; subst h; exact ⟨rfl, rfl⟩
    | succ k =>
      obtain ⟨q1, q2⟩ := ih k p (by simpa using h)
      rw [List.getElem?_append_right (by simp; omega), List.getElem?_append_right (by simp; omega)]
      simp only [List.length_cons, List.length_nil]
      rw [show (k + 1) * 2 - (0 + 1 + 1) = k * 2 by omega, show (k + 1) * 2 + 1 - (0 + 1 + 1) = k * 2 + 1 by omega]
      exact ⟨q1, q2⟩
theorem qL_ok (q : Bool) (s : ByteArray) (k : Nat) (hs : s.size ≤ 100) : ∀ p ∈ qL q s k, (joinB p.1).size ≤ 100000 ∧ p.1.length ≤ 1000 := by
  intro p hp
  unfold qL at hp
  split at hp
  · simp at hp
  · simp at hp; subst hp
    exact ⟨by rw [join_one]; omega, by simp⟩
theorem qcheck_ok (r a b c : Nat) : (∀ p ∈ qcheckL r a b c, (joinB p.1).size ≤ 100000 ∧ p.1.length ≤ 1000) ∧ (qcheckL r a b c).length ≤ 5 := by
  unfold qcheckL
  constructor
  · intro p hp
    simp only [List.mem_append] at hp
    rcases hp with (((hp | hp) | hp) | hp) | hp
    · exact qL_ok _ _ _ (by decide) p hp
    · exact qL_ok _ _ _ (by decide) p hp
    · exact qL_ok _ _ _ (by decide) p hp
    · exact qL_ok _ _ _ (by decide) p hp
    · exact qL_ok _ _ _ (by decide) p hp
  · simp only [List.length_append]
    have := qL_len (decide (an a r = 0)) bWith 1
    have := qL_len (decide (an b r = 0)) bWithout 1
    have := qL_len (decide (an c r = 0)) bChanged 1
    have := qL_len (decide (a &&& b = 0)) bWithout 9
    have := qL_len (decide (an c a = 0)) bChanged 7
    omega
theorem bel_drewN {B : Nat} {w w' : World} (h : Below B w w') (n : Nat) : Below B w (w'.drewN n) := h.trans ⟨rfl, rfl, rfl, Nat.le_refl _, fun _ _ => rfl⟩
set_option maxHeartbeats 8000000 in
set_option maxRecDepth 100000 in
theorem checks_law (w : World) (Ad : Nat → Addr) (hE : Env w Ad) (va vb : Value) (hvb : ∃ a l c, vb = .slice a l c) (cs : List Cmp) (hC : CmpRow w va cs) (a b c : Nat) (ha : a < 4294967296) (hb : b < 4294967296) (hc : c < 4294967296) (fr : Int) (hfr : J64 fr) (pv : Value) (ps : List Prt) (hP : PRow w pv ps) (hJ : ∀ p ∈ ps, J64 p.c ∧ J64 p.t) :
    Calls Tryd.prog 3 #[.agg #[va, vb], .agg #[.int .u32 (a : Int), .int .u32 (b : Int), .int .u32 (c : Int)], .agg #[.int .i64 fr], pv] w fun e w' => e = .returned (.bool true) ∧ Below w.heap.size w w' := by
  obtain ⟨w1, hw1⟩ : ∃ w1, w1 = ((w.alloc (.cells #[va, vb] 25)).alloc (.cells #[.int .u32 (a : Int), .int .u32 (b : Int), .int .u32 (c : Int)] 29)).alloc (.cells #[.int .i64 fr] 30) := ⟨_, rfl⟩
  obtain ⟨b1, r1, p1, q1⟩ := three_blk w #[va, vb] #[.int .u32 (a : Int), .int .u32 (b : Int), .int .u32 (c : Int)] #[.int .i64 fr] 25 29 30
  rw [← hw1] at b1 r1 p1 q1
  have KK0 : Hid (∀ W', Below w1.heap.size w1 W' → W'.cell? ⟨w.heap.size, 0, none⟩ = some va ∧ W'.cell? ⟨w.heap.size, 1, none⟩ = some vb ∧ W'.cell? ⟨w.heap.size + 1, 0, none⟩ = some (.int .u32 (a : Int)) ∧ W'.cell? ⟨w.heap.size + 1, 1, none⟩ = some (.int .u32 (b : Int)) ∧ W'.cell? ⟨w.heap.size + 1, 2, none⟩ = some (.int .u32 (c : Int)) ∧ W'.cell? ⟨w.heap.size + 2, 0, none⟩ = some (.int .i64 fr)) := fun W' h =>
    ⟨cell_blk (blk_seen h (Nat.le_refl _) r1) rfl, cell_blk (blk_seen h (Nat.le_refl _) r1) rfl, cell_blk (blk_seen h (Nat.le_refl _) p1) rfl, cell_blk (blk_seen h (Nat.le_refl _) p1) rfl, cell_blk (blk_seen h (Nat.le_refl _) p1) rfl, cell_blk (blk_seen h (Nat.le_refl _) q1) rfl⟩
  have HC := hid hC
  have HVB := hid hvb
  have HP := hid hP
  have HJ := hid hJ
  have HW1 := hid hw1
  have B1 := hid b1
  have E1 := hid (hE.later b1)
  have AW := hid (awake_any Ad w1 E1.out)
  obtain ⟨sa, sc, rfl, hcap, -⟩ := hC
  obtain ⟨ta, tl, tc, rfl⟩ := hvb
  obtain ⟨pa, pc, rfl, -⟩ := hP
  clear hw1 b1 r1 p1 q1 hE hJ
  go_enter Tryd.func3, Tryd.ntmps3
  go_upto_region 1 with fail
  rw [← HW1.out]
  go_wp2_with fail
  refine AW.out.mono ?_
  rintro e w2 ⟨rfl, b2⟩
  have C2 := hid b2
  have B2 := hid (B1.out.trans (b2.mono B1.out.size))
  obtain ⟨x0, x1, y0, y1, y2, z0⟩ := KK0.out w2 b2
  clear AW b2
  by_cases h1 : 60 < cs.length
  · have h1i : (60 : Int) < (cs.length : Int) := by omega
    go_wp2_with fail
    go_ret
    exact ⟨rfl, B2.out⟩
  · have h1i : ¬ (60 : Int) < (cs.length : Int) := by omega
    by_cases h2 : 60 < ps.length
    · have h2i : (60 : Int) < (ps.length : Int) := by omega
      go_wp2_with fail
      go_ret
      exact ⟨rfl, B2.out⟩
    · have h2i : ¬ (60 : Int) < (ps.length : Int) := by omega
      have K1 := hid (qcheck_any Ad w2 _ _ HVB.out cs (E1.out.later C2.out) (HC.out.later B2.out) (by omega) a b c ha hb hc)
      obtain ⟨ok, hll⟩ := qcheck_ok (rolA cs) a b c
      have OK := hid ok
      have HLL := hid hll
      clear ok hll
      go_wp2_with fail
      refine K1.out.mono ?_
      rintro e w3 ⟨v3, rfl, t3, b3⟩
      have C3 := hid (C2.out.trans (b3.mono C2.out.size))
      have B3 := hid (B2.out.trans (b3.mono B2.out.size))
      have L1 := hid (leaves_any Ad v3 (qcheckL (rolA cs) a b c) 1 w3 (E1.out.later C3.out) t3.tr (by omega) OK.out (by have := HLL.out; omega))
      clear t3 b3 K1
      go_wp2_with fail
      refine L1.out.mono ?_
      rintro e w4 ⟨lv, rfl, o4, b4⟩
      have C4 := hid (C3.out.trans (b4.mono C3.out.size))
      have B4 := hid (B3.out.trans (b4.mono B3.out.size))
      have O4 := hid o4
      have M1 := hid (rcheck_any w4 _ _ HVB.out cs (HC.out.later B4.out) (by omega) a b c ha hb hc)
      obtain ⟨x0, x1, y0, y1, y2, z0⟩ := KK0.out w4 C4.out
      obtain ⟨xa, xc, rfl⟩ := own_slice o4
      clear L1 o4 b4
      go_wp2_with fail
      refine M1.out.mono ?_
      rintro e w5 ⟨mv, rfl, o5, b5⟩
      have C5 := hid (C4.out.trans (b5.mono C4.out.size))
      have B5 := hid (B4.out.trans (b5.mono B4.out.size))
      have O5 := hid o5
      have O4' := hid (own_kept O4.out (St.of_below (S := fun _ => False) b5) fun _ _ q => q)
      obtain ⟨ya, yc, rfl⟩ := own_slice o5
      clear M1 o5 b5 O4 x0 x1 y0 y1 y2 z0 OK
      generalize qcheckL (rolA cs) a b c = ls at *
      have hl5 : ls.length ≤ 5 := HLL.out
      have hl5i : (ls.length : Int) ≤ 5 := by omega
      clear HLL
      go_wp2_with fail
      go_loopg [11] ls.length (fun gh s10 wx => ∃ k : Nat, k ≤ ls.length ∧ gh = ls.length - k ∧ s10 = .int .i64 (k : Int) ∧ Hid (Below w5.heap.size w5 wx))
      case atStart => exact ⟨0, Nat.zero_le _, rfl, rfl, Below.refl _ _⟩
      case round =>
        rename World => wq
        obtain ⟨k, hk, rfl, rfl, HB⟩ := hrel
        by_cases hlt : k < ls.length
        · have hki : (k : Int) < (ls.length : Int) := by omega
          obtain ⟨p, hp⟩ := at_lt ls k hlt
          obtain ⟨e1, e2⟩ := leaf_at ls k p hp
          obtain ⟨g3, d3, f3, -, hg3⟩ := World.ownsRow.form O4'.out (by omega)
          obtain ⟨g5, d5, f5, -, hg5⟩ := World.ownsRow.form O5.out (by omega)
          have O3x := O4'.out
          have O5x := O5.out
          rw [f3] at O3x
          rw [f5] at O5x
          have c1 : wq.cell? ⟨g3, k * 2, none⟩ = some (.string (joinB p.1)) := (HB.out.cell (p := ⟨g3, k * 2, none⟩) hg3).trans ((O3x.cellAt (k * 2) (by omega)).trans e1)
          have c2 : wq.cell? ⟨g3, k * 2 + 1, none⟩ = some (.int .i64 (p.2 : Int)) := (HB.out.cell (p := ⟨g3, k * 2 + 1, none⟩) hg3).trans ((O3x.cellAt (k * 2 + 1) (by omega)).trans e2)
          have c3 : wq.cell? ⟨g5, k * 2, none⟩ = some (.string (joinB p.1)) := (HB.out.cell (p := ⟨g5, k * 2, none⟩) hg5).trans ((O5x.cellAt (k * 2) (by omega)).trans e1)
          have c4 : wq.cell? ⟨g5, k * 2 + 1, none⟩ = some (.int .i64 (p.2 : Int)) := (HB.out.cell (p := ⟨g5, k * 2 + 1, none⟩) hg5).trans ((O5x.cellAt (k * 2 + 1) (by omega)).trans e2)
          obtain ⟨rfl, rfl⟩ : xa = some ⟨g3, 0, none⟩ ∧ xc = d3 := by simpa using f3
          obtain ⟨rfl, rfl⟩ : ya = some ⟨g5, 0, none⟩ ∧ yc = d5 := by simpa using f5
          clear O3x O5x f3 f5 e1 e2 hp
          generalize joinB p.1 = y at *
          go_wp2_with fail
          go_quiet (fail)
          go_wp2_with fail
          go_roundg (ls.length - (k + 1))
          case measure => omega
          case rel => exact ⟨k + 1, by omega, rfl, by go_num, bel_drewN HB.out _⟩
        · have hki : ¬ ((k : Int) < (ls.length : Int)) := by omega
          have C6 := hid (C5.out.trans (HB.out.mono C5.out.size))
          have B6 := hid (B5.out.trans (HB.out.mono B5.out.size))
          have KK : Hid (∀ W', Below wq.heap.size wq W' → W'.cell? ⟨w.heap.size + 1, 0, none⟩ = some (.int .u32 (a : Int)) ∧ W'.cell? ⟨w.heap.size + 1, 1, none⟩ = some (.int .u32 (b : Int)) ∧ W'.cell? ⟨w.heap.size + 1, 2, none⟩ = some (.int .u32 (c : Int)) ∧ W'.cell? ⟨w.heap.size + 2, 0, none⟩ = some (.int .i64 fr)) := fun W' h => (KK0.out W' (C6.out.trans (h.mono C6.out.size))).2.2
          have M1 : Hid (∀ W', Below wq.heap.size wq W' → Calls Tryd.prog 9 #[.agg #[.int .u32 (a : Int), .int .u32 (b : Int), .int .u32 (c : Int)], .int .i64 fr, .slice pa ps.length pc] W' fun e w' => e = .returned (.bool (meansB a b c fr ps)) ∧ Below wq.heap.size wq w') := fun W' h => (means_any a b c ha hb hc fr hfr ((HP.out.later B6.out).later h) (by omega) HJ.out).mono fun _ _ ⟨q1, q2⟩ => ⟨q1, h.trans (q2.mono h.size)⟩
          have M2 : Hid (∀ W', Below wq.heap.size wq W' → Calls Tryd.prog 10 #[.agg #[.int .u32 (a : Int), .int .u32 (b : Int), .int .u32 (c : Int)], .int .i64 fr, .slice pa ps.length pc] W' fun e w' => e = .returned (.bool (meansB a b c fr ps)) ∧ Below wq.heap.size wq w') := fun W' h => (rmeans_any a b c fr hfr ((HP.out.later B6.out).later h) (by omega)).mono fun _ _ ⟨q1, q2⟩ => ⟨q1, h.trans (q2.mono h.size)⟩
          generalize meansB a b c fr ps = z at *
          have hd0 := Below.refl wq.heap.size wq
          have hd1 : Below wq.heap.size wq wq.drew := (Below.refl _ _).drew
          obtain ⟨k0, k1, k2, k3⟩ := KK.out wq hd0
          clear O4' O5 HB KK0 HP HJ HC
          go_upto_region 14 with fail
          go_region_held3 (fun W' => W'.cell? ⟨w.heap.size + 1, 0, none⟩ = some (.int .u32 (a : Int)) ∧ W'.cell? ⟨w.heap.size + 1, 1, none⟩ = some (.int .u32 (b : Int)) ∧ W'.cell? ⟨w.heap.size + 1, 2, none⟩ = some (.int .u32 (c : Int)) ∧ W'.cell? ⟨w.heap.size + 2, 0, none⟩ = some (.int .i64 fr))
            (exact KK.out _ (by assumption))
            (first
              | (go_at_call 9; refine (M1.out _ (by assumption)).mono ?_; rintro e w9 ⟨rfl, hd9⟩)
              | (go_at_call 10; refine (M2.out _ (by assumption)).mono ?_; rintro e w10 ⟨rfl, hd10⟩))
          have BF := hid (B6.out.trans (hd10.mono B6.out.size))
          clear KK M1 M2 hd9 hd10 hd0 hd1 k0 k1 k2 k3
          go_wp2_with fail
          go_ret
          exact ⟨by simp, BF.out⟩
end Go.Proofs.YtfabmleiibnhdaaDoor.Qu
