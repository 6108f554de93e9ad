/- Row, of a row that there is. -/
import Derived.Test.YtpglanlpnapddaaDoorCe
namespace Go.Proofs.YtpglanlpnapddaaDoor
open Go.RowKit Go.Shelf Go.Maps
theorem infoInt : (Tryd.prog.info? 3).map (·.size) = some 1 := by kernel_rfl
theorem add_at2 (g o j : Nat) : (⟨g, o, none⟩ : Addr).add j = ⟨g, o + j, none⟩ := by unfold Addr.add; split <;> simp_all
/-- The cells of a row lie where the row lies. -/
theorem row_cells {W : World} {g L : Nat} {cur : Array Value} {w : Nat} {l : List Pt} {n : Nat} {p : Pt} (hg : W.heap[g]? = some (.cells cur 3 (0, 0))) (hL : cur.toList.take L = flat w l) (hw : w ≤ 4) (hn : l[n]? = some p) :
    ∀ (j : Nat) (v : Value), (p.row w)[j]? = some v → W.cell? ((⟨g, n * w, none⟩ : Addr).add j) = some v := by
  intro j v hv
  have hj : j < w := by have := (List.getElem?_eq_some_iff.1 hv).1; rw [p.row_len hw] at this; exact this
  rw [add_at2]
  refine cell_blk hg ?_
  have h1 := flat_at hw hn hj
  rw [← hL, hv, List.getElem?_take] at h1
  split at h1
  · simpa using h1
  · cases h1
set_option maxHeartbeats 1600000 in
set_option maxRecDepth 100000 in
theorem row_some {B : Nat} {W : World} {rb mb : Nat} {sv : Value} {s : CS} (h : Cl B W rb mb sv s) (n : Nat) (p : Pt) (hp : s.rows[n]? = some p) :
    Calls Tryd.prog 24 #[.pointer (some ⟨rb, 0, none⟩), .int .i64 (n : Int)] W fun e W' => e = .returned (.tuple #[p.val s.comp, .nilIface]) ∧ Below W.heap.size W W' := by
  have hnl : n < s.rows.length := (List.getElem?_eq_some_iff.1 hp).1
  have hsm := h.small
  obtain ⟨g, cap, cur, hsv, hBg, hg, hLc, hcm, hcs, hfl⟩ := h.cells (by omega)
  subst hsv
  have hfit := (h.ok.fit p (List.mem_of_getElem? hp)).1
  have hw0 := h.ok.w0
  have hw4 := h.ok.w4
  have hnw : n * s.w + s.w ≤ s.rows.length * s.w := by rw [← Nat.succ_mul]; exact Nat.mul_le_mul_right _ hnl
  have hL4 : s.rows.length * s.w ≤ 4000 := by have := Nat.mul_le_mul hsm hw4; omega
  have c0 := h.c0
  have c1 := h.c1
  have c2 := h.c2
  have c3 := h.c3
  have hrl := World.block_lt_of_cell? W _ c3
  have hrn := World.new_ne W _ c3
  have hrn2 : ¬ (rb = W.heap.size + 1) := by have : rb < W.heap.size := hrl; omega
  obtain ⟨D, hD, hH⟩ := (h.later (bAl W (.cells #[.int .i64 0, .int .i64 0, .int .i64 0, .int .i64 0, .int .i64 0, .int .i64 0] 34))).map
  have LK := look_two hD hH (n : Int) (I64_mid (by omega) (by omega))
  unfold tickAt at LK
  rw [rowAt_nat, hp] at LK
  simp only [Option.isSome_some] at LK
  obtain ⟨W3, hW3⟩ : ∃ W3, W3 = (W.alloc (.cells #[.int .i64 0, .int .i64 0, .int .i64 0, .int .i64 0, .int .i64 0, .int .i64 0] 34)).alloc (.cells #[.int .i64 s.comp, .int .i64 0, .int .i64 0, .int .i64 0, .int .i64 0, .int .i64 p.t] 34) := ⟨_, rfl⟩
  have b3 : Below W.heap.size W W3 := by rw [hW3]; exact (bAl W _).alloc (by simp) _
  have r3 : W3.heap[W.heap.size]? = some (.cells (Pt.zero.arr 0) 34 (0, 0)) := by
    rw [hW3, Below.heap_alloc _ _ _ (by simp)]; exact heap_alloc_new W _
  have p3 : W3.heap[W.heap.size + 1]? = some (.cells ((⟨0, 0, 0, 0, p.t⟩ : Pt).arr s.comp) 34 (0, 0)) := by
    have := heap_alloc_new (W.alloc (.cells #[.int .i64 0, .int .i64 0, .int .i64 0, .int .i64 0, .int .i64 0, .int .i64 0] 34)) (.cells #[.int .i64 s.comp, .int .i64 0, .int .i64 0, .int .i64 0, .int .i64 0, .int .i64 p.t] 34)
    rw [World.size_alloc] at this
    rw [hW3]; exact this
  have g3 := blk_seen b3 (Nat.le_refl _) hg
  have k1 := seen b3 (Nat.le_refl _) c1
  have k2 := seen b3 (Nat.le_refl _) c2
  -- the copy
  have src : ∀ m (j : Nat) (v : Value), (p.row s.w)[j]? = some v → (W3.drewN m).cell? ((⟨g, n * s.w, none⟩ : Addr).add j) = some v := fun m => row_cells (W := W3.drewN m) g3 hfl hw4 hp
  have CP : ∀ m ty, (Builtin.copy_ #[55, 55] ty #[.slice (some ⟨W.heap.size + 1, 1, none⟩) 4 4, .slice (some ⟨g, n * s.w, none⟩) s.w (cap - n * s.w)]).run Tryd.prog (W3.drewN m) = .ok (.int .i64 (s.w : Int)) ((W3.drewN m).setRow (W.heap.size + 1) (p.arr s.comp)) := by
    intro m ty
    have hh := run_copy_row (P := Tryd.prog) (W3.drewN m) 55 55 ty 3 (W.heap.size + 1) 1 4 4 ⟨g, n * s.w, none⟩ s.w (cap - n * s.w) ((⟨0, 0, 0, 0, p.t⟩ : Pt).arr s.comp) 34 (p.row s.w) Tryd.underlying55 infoInt p3 (by rw [p.row_len hw4]; exact (Nat.min_eq_left hw4).symm) (src m) (by rw [p.row_len hw4]; show 1 + s.w ≤ 6; omega) (row_one _ _)
    have e := p.filled hw0 hw4 hfit s.comp
    unfold Pt.arr at hh
    rw [e] at hh
    rw [hh, p.row_len hw4]
    rfl
  have CR := hid (fun m => crow_any (W := W3.drewN m) (seen (drewN_below W3 m) (Nat.le_refl _) k1) (seen (drewN_below W3 m) (Nat.le_refl _) k2) rfl hnw hLc hL4 hw0 hw4 (by omega))
  -- what is there behind it
  have FIN : Hid (∀ m W4, W4 = (W3.drewN m).setRow (W.heap.size + 1) (p.arr s.comp) → W4.heap[W.heap.size]? = some (.cells (Pt.zero.arr 0) 34 (0, 0)) ∧ W4.heap[W.heap.size + 1]? = some (.cells (p.arr s.comp) 34 (0, 0)) ∧ Below W.heap.size W W4) := by
    intro m W4 e
    subst e
    refine ⟨?_, ?_, ?_⟩
    · rw [setRow_other _ _ _ _ (by omega)]; exact r3
    · exact setRow_heap (W3.drewN m) (W.heap.size + 1) _ _ 34 _ p3
    · exact (b3.trans ((drewN_below W3 m).mono b3.size)).trans ⟨rfl, rfl, rfl, by simp [World.setRow], fun k hk => setRow_other _ _ _ _ (by omega)⟩
  have HW3 := hid hW3
  clear hD hH h hp hW3 p3 r3 b3 g3 k1 k2 src hg hfl hfit c1 c2 hBg
  generalize n * s.w = o at *
  generalize s.comp = cm at *
  generalize s.w = sw at *
  go_enter Tryd.func24, Tryd.ntmps24
  go_wp2_with fail
  rw [← HW3.out]
  go_region_held3 (fun _ => True) (exact trivial)
    ((go_at_call 32; refine (CR.out 1).mono ?_; rintro e w8 ⟨rfl, m, rfl⟩; rw [World.drewN_drewN]))
  obtain ⟨W4, hW4⟩ : ∃ W4, W4 = (W3.drewN (1 + m)).setRow (W.heap.size + 1) (p.arr cm) := ⟨_, rfl⟩
  rw [← hW4]
  obtain ⟨r4, p4, b4⟩ := FIN.out _ _ hW4
  have R4 := hid r4
  have B4 := hid b4
  obtain ⟨d0, d1, d2, d3, d4, d5, -, -, -, -, -, -⟩ := lies p4
  obtain ⟨x0, x1, x2, x3, x4, x5, f0, f1, f2, f3, f4, f5⟩ := lies r4
  clear LK CP CR FIN HW3 hW4 r4 p4 b4 c3 hrl hrn hrn2
  go_wp2_with fail
  have PB := put6_blk R4.out rfl cm p
  have PS := put6_st W4 W.heap.size cm p
  unfold put6 at PB PS
  obtain ⟨d0, d1, d2, d3, d4, d5, -, -, -, -, -, -⟩ := lies PB
  have BF := B4.out.trans (PS.below (B := W.heap.size) (fun k hk => by omega) B4.out.size)
  generalize (((((W4.setCell ⟨W.heap.size, 0, none⟩ (.int .i64 cm)).setCell ⟨W.heap.size, 1, none⟩ (.int .i64 p.a)).setCell ⟨W.heap.size, 2, none⟩ (.int .i64 p.b)).setCell ⟨W.heap.size, 3, none⟩ (.int .i64 p.c)).setCell ⟨W.heap.size, 4, none⟩ (.int .i64 p.d)).setCell ⟨W.heap.size, 5, none⟩ (.int .i64 p.t) = W5 at *
  exact bodyPost_ret (v := .tuple #[.agg #[.int .i64 cm, .int .i64 p.a, .int .i64 p.b, .int .i64 p.c, .int .i64 p.d, .int .i64 p.t], .nilIface]) (by simp [results, Tryd.results24, go_sem, d0, d1, d2, d3, d4, d5]) rfl ⟨rfl, BF⟩
end Go.Proofs.YtpglanlpnapddaaDoor
