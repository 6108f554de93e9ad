/- Row. -/
import Derived.Test.YtpglanlpnapddaaDoorCd
namespace Go.Proofs.YtpglanlpnapddaaDoor
open Go.RowKit Go.Shelf Go.Maps
/-- A part stored over a part. -/
def put6 (W : World) (b : Nat) (cm : Int) (p : Pt) : World := (((((W.setCell ⟨b, 0, none⟩ (.int .i64 cm)).setCell ⟨b, 1, none⟩ (.int .i64 p.a)).setCell ⟨b, 2, none⟩ (.int .i64 p.b)).setCell ⟨b, 3, none⟩ (.int .i64 p.c)).setCell ⟨b, 4, none⟩ (.int .i64 p.d)).setCell ⟨b, 5, none⟩ (.int .i64 p.t)
theorem put6_blk {W : World} {b : Nat} {cs : Array Value} {e : TypeId} (h : W.heap[b]? = some (.cells cs e (0, 0))) (hs : cs.size = 6) (cm : Int) (p : Pt) : (put6 W b cm p).heap[b]? = some (.cells (p.arr cm) e (0, 0)) := by
  have h1 := heap_setCell_same W b 0 cs e (.int .i64 cm) h
  have h2 := heap_setCell_same _ b 1 _ e (.int .i64 p.a) h1
  have h3 := heap_setCell_same _ b 2 _ e (.int .i64 p.b) h2
  have h4 := heap_setCell_same _ b 3 _ e (.int .i64 p.c) h3
  have h5 := heap_setCell_same _ b 4 _ e (.int .i64 p.d) h4
  have h6 := heap_setCell_same _ b 5 _ e (.int .i64 p.t) h5
  unfold put6
  rw [h6]
  clear h h1 h2 h3 h4 h5 h6
  have e : ((((((cs.setIfInBounds 0 (.int .i64 cm)).setIfInBounds 1 (.int .i64 p.a)).setIfInBounds 2 (.int .i64 p.b)).setIfInBounds 3 (.int .i64 p.c)).setIfInBounds 4 (.int .i64 p.d)).setIfInBounds 5 (.int .i64 p.t)) = p.arr cm := by
    apply Array.toList_inj.1
    obtain ⟨l⟩ := cs
    match l, hs with
    | [x0, x1, x2, x3, x4, x5], _ => simp [Pt.arr]
  rw [e]
theorem put6_st (W : World) (b : Nat) (cm : Int) (p : Pt) : St (fun k => k = b) W (put6 W b cm p) := by
  unfold put6
  have q : ∀ x, x < W.heap.size → (fun k => k = b) x → (fun k => k = b) x := fun _ _ h => h
  exact (((((St.setCell (S := fun k => k = b) (p := ⟨b, 0, none⟩) _ rfl).trans (St.setCell (S := fun k => k = b) (p := ⟨b, 1, none⟩) _ rfl) fun _ _ h => h).trans (St.setCell (S := fun k => k = b) (p := ⟨b, 2, none⟩) _ rfl) fun _ _ h => h).trans (St.setCell (S := fun k => k = b) (p := ⟨b, 3, none⟩) _ rfl) fun _ _ h => h).trans (St.setCell (S := fun k => k = b) (p := ⟨b, 4, none⟩) _ rfl) fun _ _ h => h).trans (St.setCell (S := fun k => k = b) (p := ⟨b, 5, none⟩) _ rfl) fun _ _ h => h
def Pt.zero : Pt := ⟨0, 0, 0, 0, 0⟩
theorem set_same {W : World} {b j : Nat} {cs : Array Value} {e : TypeId} {u : Value} (h : W.heap[b]? = some (.cells cs e (0, 0))) (hj : cs[j]? = some u) : W.setCell ⟨b, j, none⟩ u = W := by
  have e : (W.setCell ⟨b, j, none⟩ u).heap = W.heap := by
    apply Array.ext_getElem?
    intro k
    by_cases hk : k = b
    · subst hk
      rw [heap_setCell_same W k j cs e u h, h]
      have : cs.setIfInBounds j u = cs := by
        apply Array.ext_getElem?
        intro m
        rw [Array.getElem?_setIfInBounds]
        split
        · rename_i hm
          subst hm
          have := (Array.getElem?_eq_some_iff.1 hj).1
          rw [if_pos this, hj]
        · rfl
      rw [this]
    · exact Below.heap_setCell _ _ _ _ hk
  unfold World.setCell at e ⊢
  cases W
  simp at e ⊢
  exact e
theorem put6_same {W : World} {b : Nat} {e : TypeId} {cm : Int} {p : Pt} (h : W.heap[b]? = some (.cells (p.arr cm) e (0, 0))) : put6 W b cm p = W := by
  unfold put6
  rw [set_same h rfl, set_same h rfl, set_same h rfl, set_same h rfl, set_same h rfl, set_same h rfl]
/-- A part that lies in memory: its cells, and that they may be written. -/
structure Lies (W : World) (b : Nat) (cm : Int) (p : Pt) : Prop where
  c0 : W.cell? ⟨b, 0, none⟩ = some (.int .i64 cm)
  c1 : W.cell? ⟨b, 1, none⟩ = some (.int .i64 p.a)
  c2 : W.cell? ⟨b, 2, none⟩ = some (.int .i64 p.b)
  c3 : W.cell? ⟨b, 3, none⟩ = some (.int .i64 p.c)
  c4 : W.cell? ⟨b, 4, none⟩ = some (.int .i64 p.d)
  c5 : W.cell? ⟨b, 5, none⟩ = some (.int .i64 p.t)
  f0 : W.frozen? ⟨b, 0, none⟩ = false
  f1 : W.frozen? ⟨b, 1, none⟩ = false
  f2 : W.frozen? ⟨b, 2, none⟩ = false
  f3 : W.frozen? ⟨b, 3, none⟩ = false
  f4 : W.frozen? ⟨b, 4, none⟩ = false
  f5 : W.frozen? ⟨b, 5, none⟩ = false
theorem lies {W : World} {b : Nat} {cm : Int} {p : Pt} {e : TypeId} (h : W.heap[b]? = some (.cells (p.arr cm) e (0, 0))) : Lies W b cm p :=
  ⟨cell_blk h rfl, cell_blk h rfl, cell_blk h rfl, cell_blk h rfl, cell_blk h rfl, cell_blk h rfl, blk_free h 0, blk_free h 1, blk_free h 2, blk_free h 3, blk_free h 4, blk_free h 5⟩
set_option maxHeartbeats 800000 in
set_option maxRecDepth 100000 in
theorem row_nil (Ad : Nat → Addr) (W : World) (hE : Env3 W Ad) (i : Int) :
    Calls Tryd.prog 24 #[.pointer none, .int .i64 i] W fun e W' => ∃ t q, e = .returned (.tuple #[.agg #[.int .i64 0, .int .i64 0, .int .i64 0, .int .i64 0, .int .i64 0, .int .i64 0], .iface t q]) ∧ Err Ad W' (.iface t q) 2 1 ∧ Below W.heap.size W W' := by
  have BA : Hid (Below W.heap.size W (W.alloc (.cells #[.int .i64 0, .int .i64 0, .int .i64 0, .int .i64 0, .int .i64 0, .int .i64 0] 34))) := bAl _ _
  have e2 := hE.c2
  have hl := World.block_lt_of_cell? W _ e2
  have hn := World.new_ne W _ e2
  have AC := hid (fun s => at_err Ad s _ 2 0 (W.alloc (.cells #[.int .i64 0, .int .i64 0, .int .i64 0, .int .i64 0, .int .i64 0, .int .i64 0] 34)) (err_leaf Ad _ 2 (by decide)))
  clear hE
  go_enter Tryd.func24, Tryd.ntmps24
  go_wp2_with fail
  refine (AC.out _).mono ?_
  rintro e w1 ⟨t, q, rfl, hv, hb⟩
  have HV := hid hv
  have HB := hid (BA.out.trans (hb.mono BA.out.size))
  have HH : Hid (w1.heap[W.heap.size]? = some (.cells (Pt.zero.arr 0) 34 (0, 0))) := blk_seen hb (Nat.le_refl _) (heap_alloc_new W (.cells #[.int .i64 0, .int .i64 0, .int .i64 0, .int .i64 0, .int .i64 0, .int .i64 0] 34))
  obtain ⟨d0, d1, d2, d3, d4, d5, f0, f1, f2, f3, f4, f5⟩ := lies HH.out
  unfold Pt.zero at d1 d2 d3 d4 d5
  clear hv hb e2 hl hn AC
  go_wp2_with fail
  have PS := put6_same HH.out
  unfold put6 Pt.zero at PS
  rw [PS]
  exact bodyPost_ret (v := .tuple #[.agg #[.int .i64 0, .int .i64 0, .int .i64 0, .int .i64 0, .int .i64 0, .int .i64 0], .iface t q]) (by simp [results, Tryd.results24, go_sem, d0, d1, d2, d3, d4, d5]) rfl ⟨t, q, rfl, HV.out, HB.out⟩
set_option maxHeartbeats 800000 in
set_option maxRecDepth 100000 in
theorem row_none (Ad : Nat → Addr) {B : Nat} {W : World} {rb mb : Nat} {sv : Value} {s : CS} (h : Cl B W rb mb sv s) (hE : Env3 W Ad) (i : Int) (hi : I64 i) (hr : rowAt s.rows i = none) :
    Calls Tryd.prog 24 #[.pointer (some ⟨rb, 0, none⟩), .int .i64 i] W fun e W' => ∃ t q, e = .returned (.tuple #[.agg #[.int .i64 0, .int .i64 0, .int .i64 0, .int .i64 0, .int .i64 0, .int .i64 0], .iface t q]) ∧ Err Ad W' (.iface t q) 7 1 ∧ Below W.heap.size W W' := by
  have BA : Hid (Below W.heap.size W (W.alloc (.cells #[.int .i64 0, .int .i64 0, .int .i64 0, .int .i64 0, .int .i64 0, .int .i64 0] 34))) := bAl _ _
  have e2 := hE.c7
  have hl := World.block_lt_of_cell? W _ e2
  have hn := World.new_ne W _ e2
  have c3 := h.c3
  have hrl := World.block_lt_of_cell? W _ c3
  have hrn := World.new_ne W _ c3
  obtain ⟨D, hD, hH⟩ := (h.later BA.out).map
  have LK := look_two hD hH i hi
  rw [hr] at LK
  generalize tickAt s.rows i = tk at LK
  have AC := hid (fun s => at_err Ad s _ 7 0 (W.alloc (.cells #[.int .i64 0, .int .i64 0, .int .i64 0, .int .i64 0, .int .i64 0, .int .i64 0] 34)) (err_leaf Ad _ 7 (by decide)))
  clear hE hD hH h hr
  go_enter Tryd.func24, Tryd.ntmps24
  go_wp2_with fail
  refine (AC.out _).mono ?_
  rintro e w1 ⟨t, q, rfl, hv, hb⟩
  have HV := hid hv
  have HB := hid (BA.out.trans (hb.mono BA.out.size))
  have HH : Hid (w1.heap[W.heap.size]? = some (.cells (Pt.zero.arr 0) 34 (0, 0))) := blk_seen hb (Nat.le_refl _) (heap_alloc_new W (.cells #[.int .i64 0, .int .i64 0, .int .i64 0, .int .i64 0, .int .i64 0, .int .i64 0] 34))
  obtain ⟨d0, d1, d2, d3, d4, d5, f0, f1, f2, f3, f4, f5⟩ := lies HH.out
  unfold Pt.zero at d1 d2 d3 d4 d5
  clear hv hb e2 hl hn AC LK
  go_wp2_with fail
  have PS := put6_same HH.out
  unfold put6 Pt.zero at PS
  rw [PS]
  exact bodyPost_ret (v := .tuple #[.agg #[.int .i64 0, .int .i64 0, .int .i64 0, .int .i64 0, .int .i64 0, .int .i64 0], .iface t q]) (by simp [results, Tryd.results24, go_sem, d0, d1, d2, d3, d4, d5]) rfl ⟨t, q, rfl, HV.out, HB.out⟩
end Go.Proofs.YtpglanlpnapddaaDoor
