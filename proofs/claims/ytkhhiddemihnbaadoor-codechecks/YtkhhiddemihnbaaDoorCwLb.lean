/- The document's table. -/
import Derived.Test.YtkhhiddemihnbaaDoorCwDc
import Derived.Laws.Tables
namespace Go.Proofs.YtkhhiddemihnbaaDoor.Cw
open Go.RowKit Go.Shelf
def tabA : Array Value := ((List.range 36).flatMap fun k => [.string (wordN k), .int .i64 (argsT.getD k 0), .int .i64 (takesT.getD k 0), .int .i64 (laysT.getD k 0)]).toArray
theorem tab_at : ∀ k, k < 36 → tabA[k * 4]? = some (.string (wordN k)) ∧ tabA[k * 4 + 1]? = some (.int .i64 (argsT.getD k 0)) ∧ tabA[k * 4 + 2]? = some (.int .i64 (takesT.getD k 0)) ∧ tabA[k * 4 + 3]? = some (.int .i64 (laysT.getD k 0)) := by
  intro k hk
  have h : ∀ n, ∀ k, k < n → ∀ i, i < 4 → (((List.range n).flatMap fun k => [Value.string (wordN k), .int .i64 (argsT.getD k 0), .int .i64 (takesT.getD k 0), .int .i64 (laysT.getD k 0)]))[k * 4 + i]? = [Value.string (wordN k), .int .i64 (argsT.getD k 0), .int .i64 (takesT.getD k 0), .int .i64 (laysT.getD k 0)][i]? := by
    intro n
    induction n with
    | zero => intro k h; omega
    | succ n ih =>
      intro k h i hi
      have hl : ∀ m, ((List.range m).flatMap fun k => [Value.string (wordN k), .int .i64 (argsT.getD k 0), .int .i64 (takesT.getD k 0), .int .i64 (laysT.getD k 0)]).length = m * 4 := by
        intro m
        induction m with
        | zero => rfl
        | succ m ihm => rw [List.range_succ, List.flatMap_append, List.length_append, ihm]; simp; omega
      rw [List.range_succ, List.flatMap_append]
      by_cases e : k < n
      · rw [List.getElem?_append_left (by rw [hl]; omega)]
        exact ih k e i hi
      · obtain rfl : k = n := by omega
        rw [List.getElem?_append_right (by rw [hl]; omega), hl, show k * 4 + i - k * 4 = i by omega]
        simp
  have g : ∀ j : Nat, tabA[j]? = ((List.range 36).flatMap fun k => [Value.string (wordN k), .int .i64 (argsT.getD k 0), .int .i64 (takesT.getD k 0), .int .i64 (laysT.getD k 0)])[j]? := fun j => by unfold tabA; rw [List.getElem?_toArray]
  rw [g, g, g, g]
  exact ⟨h 36 k hk 0 (by decide), h 36 k hk 1 (by decide), h 36 k hk 2 (by decide), h 36 k hk 3 (by decide)⟩
theorem setRow_same (w : World) (g : Nat) (old cs : Array Value) (e : TypeId) (h : w.heap[g]? = some (.cells old e (0, 0))) : (w.setRow g cs).heap[g]? = some (.cells cs e (0, 0)) := setRow_heap w g old cs e _ h
/-- The document's table lies there, and a row for the answer. -/
structure Tabd (W w : World) : Prop where
  tab : w.heap[W.heap.size + 1]? = some (.cells tabA 69 (0, 0))
  box : w.heap[W.heap.size]? = some (.cells #[.string ⟨#[]⟩, .int .i64 0, .int .i64 0, .int .i64 0] 24 (0, 0))
  bel : Below W.heap.size W w
theorem tabd_of (W : World) (old : Array Value) : Tabd W (((W.alloc (.cells #[.string ⟨#[]⟩, .int .i64 0, .int .i64 0, .int .i64 0] 24)).alloc (.cells old 69)).setRow (W.heap.size + 1) tabA) := by
  have b1 := bAl W (.cells #[.string ⟨#[]⟩, .int .i64 0, .int .i64 0, .int .i64 0] 24)
  have b2 := bAl (W.alloc (.cells #[.string ⟨#[]⟩, .int .i64 0, .int .i64 0, .int .i64 0] 24)) (.cells old 69)
  have n1 := blk_seen b2 (Nat.le_refl _) (heap_alloc_new W (.cells #[.string ⟨#[]⟩, .int .i64 0, .int .i64 0, .int .i64 0] 24))
  have n2 := heap_alloc_new (W.alloc (.cells #[.string ⟨#[]⟩, .int .i64 0, .int .i64 0, .int .i64 0] 24)) (.cells old 69)
  have z : (W.alloc (.cells #[.string ⟨#[]⟩, .int .i64 0, .int .i64 0, .int .i64 0] 24)).heap.size = W.heap.size + 1 := by simp
  rw [z] at n2
  refine ⟨setRow_same _ _ _ _ _ n2, ?_, (b1.trans (b2.mono b1.size)).trans ⟨rfl, rfl, rfl, by simp [World.setRow], fun k hk => setRow_otherW _ _ _ _ (by omega)⟩⟩
  rw [setRow_otherW _ _ _ _ (by omega)]
  exact n1
set_option maxHeartbeats 3200000 in
set_option maxRecDepth 100000 in
theorem of_any (op : Int) (W : World) : Calls Tryd.prog 10 #[.int .i64 op] W fun e W' => e = .returned (.tuple #[opV op, .bool (known op)]) ∧ Below W.heap.size W W' := by
  go_enter Tryd.func10, Tryd.ntmps10
  go_upto_region 1 with fail
  go_upto_region 2 with (refine wpList_store_row rfl 69 (.tmp 4) (.tmp 41) rfl (W.heap.size + 1) _ rfl rfl _ _ (by rw [show W.heap.size + 1 = (W.alloc (.cells #[.string ⟨#[]⟩, .int .i64 0, .int .i64 0, .int .i64 0] 24)).heap.size by simp]; exact heap_alloc_new _ _) (by kernel_rfl) (by kernel_rfl) (by kernel_rfl) ?_)
  generalize hw2 : World.setRow _ _ _ = w2
  have TD : Hid (Tabd W w2) := by
    show Tabd W w2
    rw [← hw2]
    refine (congrArg (fun c => Tabd W (((W.alloc (.cells #[.string ⟨#[]⟩, .int .i64 0, .int .i64 0, .int .i64 0] 24)).alloc (.cells _ 69)).setRow (W.heap.size + 1) c)) ?_).mpr (tabd_of W _)
    kernel_rfl
  clear hw2
  have r0 := TD.out.box
  have z0 : w2.cell? ⟨W.heap.size, 0, none⟩ = some (.string ⟨#[]⟩) := cell_blk r0 rfl
  have z1 : w2.cell? ⟨W.heap.size, 1, none⟩ = some (.int .i64 0) := cell_blk r0 rfl
  have z2 : w2.cell? ⟨W.heap.size, 2, none⟩ = some (.int .i64 0) := cell_blk r0 rfl
  have z3 : w2.cell? ⟨W.heap.size, 3, none⟩ = some (.int .i64 0) := cell_blk r0 rfl
  have f0 := blk_free r0 0
  have f1 := blk_free r0 1
  have f2 := blk_free r0 2
  have f3 := blk_free r0 3
  have fin : ∀ (s : ByteArray) (a b c : Int) (w3 : World), w3 = ((((w2.setCell ⟨W.heap.size, 0, none⟩ (.string s)).setCell ⟨W.heap.size, 1, none⟩ (.int .i64 a)).setCell ⟨W.heap.size, 2, none⟩ (.int .i64 b)).setCell ⟨W.heap.size, 3, none⟩ (.int .i64 c)) → w3.cell? ⟨W.heap.size, 0, none⟩ = some (.string s) ∧ w3.cell? ⟨W.heap.size, 1, none⟩ = some (.int .i64 a) ∧ w3.cell? ⟨W.heap.size, 2, none⟩ = some (.int .i64 b) ∧ w3.cell? ⟨W.heap.size, 3, none⟩ = some (.int .i64 c) ∧ Below W.heap.size W w3 := by
    intro s a b c w3 hw3
    have h1 := heap_setCell_same w2 W.heap.size 0 _ _ (.string s) r0
    have h2 := heap_setCell_same _ W.heap.size 1 _ _ (.int .i64 a) h1
    have h3 := heap_setCell_same _ W.heap.size 2 _ _ (.int .i64 b) h2
    have h4 := heap_setCell_same _ W.heap.size 3 _ _ (.int .i64 c) h3
    have h5 : w3.heap[W.heap.size]? = some (.cells #[.string s, .int .i64 a, .int .i64 b, .int .i64 c] 24 (0, 0)) := by rw [hw3]; simpa using h4
    have c := fun (w : World) (j : Nat) (v : Value) => St.setCell (S := fun k => k = W.heap.size) (a := w) (p := ⟨W.heap.size, j, none⟩) v rfl
    refine ⟨cell_blk h5 rfl, cell_blk h5 rfl, cell_blk h5 rfl, cell_blk h5 rfl, ?_⟩
    rw [hw3]
    exact TD.out.bel.trans (((((c _ _ _).trans (c _ _ _) fun _ _ q => q).trans (c _ _ _) fun _ _ q => q).trans (c _ _ _) fun _ _ q => q).below (fun k q => by omega) TD.out.bel.size)
  have FIN := hid fin
  clear fin
  cases hk : known op with
  | false =>
    have e : opV op = .agg #[.string ⟨#[]⟩, .int .i64 0, .int .i64 0, .int .i64 0] := by
      unfold opV word args takes lays num
      rw [hk]
      rfl
    obtain ⟨d0, d1, d2, d3, q2⟩ := FIN.out ⟨#[]⟩ 0 0 0 _ rfl
    by_cases h0 : op < 0
    · go_wp2_with fail
      exact bodyPost_ret (v := .tuple #[.agg #[.string ⟨#[]⟩, .int .i64 0, .int .i64 0, .int .i64 0], .bool false]) (by simp [results, Tryd.results10, go_sem, d0, d1, d2, d3]) rfl ⟨by first | rfl | rw [e, hk], q2⟩
    · have h1 : 35 < op := by
        unfold known at hk
        simp at hk
        omega
      go_wp2_with fail
      exact bodyPost_ret (v := .tuple #[.agg #[.string ⟨#[]⟩, .int .i64 0, .int .i64 0, .int .i64 0], .bool false]) (by simp [results, Tryd.results10, go_sem, d0, d1, d2, d3]) rfl ⟨by first | rfl | rw [e, hk], q2⟩
  | true =>
    obtain ⟨k, rfl, h36⟩ := known_nat hk
    have e : opV (k : Int) = .agg #[.string (wordN k), .int .i64 (argsT.getD k 0), .int .i64 (takesT.getD k 0), .int .i64 (laysT.getD k 0)] := by
      unfold opV word args takes lays num
      rw [hk]
      rfl
    obtain ⟨t0, t1, t2, t3⟩ := tab_at k h36
    have c0 := cell_blk TD.out.tab t0
    have c1 := cell_blk TD.out.tab t1
    have c2 := cell_blk TD.out.tab t2
    have c3 := cell_blk TD.out.tab t3
    obtain ⟨d0, d1, d2, d3, q2⟩ := FIN.out (wordN k) (argsT.getD k 0) (takesT.getD k 0) (laysT.getD k 0) _ rfl
    have h36i : (k : Int) < 36 := by omega
    have h35i : ¬ (35 < (k : Int)) := by omega
    have E := hid e
    have KN := hid hk
    clear e t0 t1 t2 t3 hk
    generalize wordN k = s at *
    generalize argsT.getD k 0 = n1 at *
    generalize takesT.getD k 0 = n2 at *
    generalize laysT.getD k 0 = n3 at *
    go_wp2_with fail
    exact bodyPost_ret (v := .tuple #[.agg #[.string s, .int .i64 n1, .int .i64 n2, .int .i64 n3], .bool true]) (by simp [results, Tryd.results10, go_sem, d0, d1, d2, d3]) rfl ⟨by first | rfl | rw [E.out, KN.out], q2⟩
end Go.Proofs.YtkhhiddemihnbaaDoor.Cw
