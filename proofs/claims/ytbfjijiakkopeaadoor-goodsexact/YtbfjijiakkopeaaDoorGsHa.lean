/- The document's goods in memory; its Get, Set. -/
import Derived.Test.YtbfjijiakkopeaaDoorGsGk
namespace Go.Proofs.YtbfjijiakkopeaaDoor.Gs
open Go.RowKit Go.Shelf Go.Maps
/-- The document's goods in memory. -/
structure Ru (B : Nat) (W : World) (ub : Nat) (va vb uv : Value) (l : List Int) (n : Nat) : Prop where
  box : W.heap[ub]? = some (.cells #[va, vb, uv, .int .i64 (n : Int)] 53 (0, 0))
  row : W.ownsRow B 3 1 uv l.length (l.map gz)
  low : B ≤ ub
  few : l.length ≤ 8
section
variable {B : Nat} {W W' : World} {ub : Nat} {va vb uv : Value} {l : List Int} {n : Nat}
theorem Ru.row_at (h : Ru B W ub va vb uv l n) {k : Nat} (hk : uv.ownBlock = some k) : ∃ cur, W.heap[k]? = some (.cells cur 3 (0, 0)) := by
  rcases h.row.2 with ⟨h1, -⟩ | ⟨g, cap, cur, h1, h2, h3, -⟩
  · rw [h1] at hk; cases hk
  · rw [h1] at hk
    obtain rfl : g = k := by simpa [Value.ownBlock] using hk
    exact ⟨cur, h3⟩
theorem Ru.ne_row (h : Ru B W ub va vb uv l n) {k : Nat} (hk : uv.ownBlock = some k) : k ≠ ub := by
  obtain ⟨cur, hc⟩ := h.row_at hk
  rintro rfl
  rw [h.box] at hc
  simp at hc
theorem Ru.lt (h : Ru B W ub va vb uv l n) (k : Nat) (hk : k = ub ∨ uv.ownBlock = some k) : B ≤ k ∧ k < W.heap.size := by
  rcases hk with rfl | hk
  · exact ⟨h.low, (Array.getElem?_eq_some_iff.1 h.box).1⟩
  · exact h.row.lt k hk
theorem Ru.kept {T : Nat → Prop} (h : Ru B W ub va vb uv l n) (hs : St T W W') (hn : ∀ k, k = ub ∨ uv.ownBlock = some k → ¬ T k) : Ru B W' ub va vb uv l n :=
  ⟨hs.at h.box (hn _ (.inl rfl)), own_later h.row fun _ _ hk hb => hs.at hb (hn _ (.inr hk)), h.low, h.few⟩
theorem Ru.later (h : Ru B W ub va vb uv l n) (hb : Below W.heap.size W W') : Ru B W' ub va vb uv l n := h.kept (T := fun _ => False) (St.of_below hb) fun _ _ q => q
theorem Ru.c2 (h : Ru B W ub va vb uv l n) : W.cell? ⟨ub, 2, none⟩ = some uv := cell_blk h.box rfl
theorem Ru.c3 (h : Ru B W ub va vb uv l n) : W.cell? ⟨ub, 3, none⟩ = some (.int .i64 (n : Int)) := cell_blk h.box rfl
theorem Ru.slice (h : Ru B W ub va vb uv l n) : ∃ a c, uv = .slice a l.length c := own_slice h.row
theorem Ru.at (h : Ru B W ub va vb uv l n) {i : Nat} {x : Int} (hi : l[i]? = some x) : ∃ g c, uv = .slice (some ⟨g, 0, none⟩) l.length c ∧ W.cell? ⟨g, i, none⟩ = some (.int .i64 x) := by
  have hlt := (List.getElem?_eq_some_iff.1 hi).1
  obtain ⟨a, c, rfl⟩ := h.slice
  have hr := h.row
  obtain ⟨g, rfl, -⟩ := own_some hr (by omega)
  refine ⟨g, c, rfl, ?_⟩
  rw [hr.cellAt i (by omega), List.getElem?_map, hi]
  rfl
set_option maxHeartbeats 800000 in
set_option maxRecDepth 100000 in
theorem rget_any (h : Ru B W ub va vb uv l n) (i : Int) :
    Calls Tryd.prog 14 #[.pointer (some ⟨ub, 0, none⟩), .int .i64 i] W fun e W' => e = .returned (.tuple #[.int .i64 ((numAt l i).getD 0), .bool (numAt l i).isSome]) ∧ W' = W := by
  cases hq : numAt l i with
  | none =>
    have ho := numAt_out hq
    obtain ⟨a, c, rfl⟩ := h.slice
    have c2 := h.c2
    clear h hq
    by_cases h0 : i < 0
    · clear ho
      go_enter Tryd.func14, Tryd.ntmps14
      go_wp2_with fail
      go_ret2
      exact ⟨rfl, rfl⟩
    · have h1 : (l.length : Int) ≤ i := by omega
      have h2 : ¬ i < (l.length : Int) := by omega
      clear ho
      go_enter Tryd.func14, Tryd.ntmps14
      go_wp2_with fail
      go_ret2
      exact ⟨rfl, rfl⟩
  | some x =>
    obtain ⟨k, rfl, hk, hx⟩ := numAt_in hq
    obtain ⟨g, c, rfl, cg⟩ := h.at hx
    have c2 := h.c2
    have h1 : (k : Int) < (l.length : Int) := by omega
    have h2 : ¬ (l.length : Int) ≤ (k : Int) := by omega
    have h3 : ¬ (k : Int) < 0 := by omega
    clear h hq hx hk
    go_enter Tryd.func14, Tryd.ntmps14
    go_wp2_with fail
    go_ret2
    exact ⟨rfl, rfl⟩
set_option maxHeartbeats 800000 in
set_option maxRecDepth 100000 in
theorem rset_out (h : Ru B W ub va vb uv l n) (i x : Int) (hi : numAt l i = none) :
    Calls Tryd.prog 12 #[.pointer (some ⟨ub, 0, none⟩), .int .i64 i, .int .i64 x] W fun e W' => e = .returned (.tuple #[.int .i64 0, .int .i64 7]) ∧ W' = W := by
  have C := hid (rget_any h i)
  rw [hi] at C
  clear h hi
  go_enter Tryd.func12, Tryd.ntmps12
  go_wp2_with fail
  refine C.out.mono ?_
  rintro e w' ⟨rfl, rfl⟩
  go_wp2_with fail
  go_ret2
  exact ⟨rfl, rfl⟩
/-- A row of its own, laid in. -/
theorem Ru.renew {w2 : World} {uv' : Value} {l' : List Int} (h : Ru B W ub va vb uv l n) (hb : Below W.heap.size W w2) (ho : w2.ownsRow W.heap.size 3 1 uv' l'.length (l'.map gz)) (hl : l'.length ≤ 8) (hB : B ≤ W.heap.size) :
    Ru B (w2.setCell ⟨ub, 2, none⟩ uv') ub va vb uv' l' n ∧ St (fun k => k = ub) W (w2.setCell ⟨ub, 2, none⟩ uv') := by
  have lu := (h.lt ub (.inl rfl)).2
  have b2 := blk_seen hb (Nat.le_refl _) h.box
  have s : St (fun k => k = ub) w2 (w2.setCell ⟨ub, 2, none⟩ uv') := St.setCell _ rfl
  have b3 := heap_setCell_same _ ub 2 _ _ uv' b2
  refine ⟨⟨by simpa using b3, ?_, h.low, hl⟩, (St.of_below hb).trans s fun _ _ q => q⟩
  have ho' : w2.ownsRow B 3 1 uv' l'.length (l'.map gz) := by
    refine ⟨ho.1, ?_⟩
    rcases ho.2 with q | ⟨g, cap, cur, q1, q2, q3⟩
    · exact .inl q
    · exact .inr ⟨g, cap, cur, q1, by omega, q3⟩
  exact own_later ho' fun k _ hk hb' => s.at hb' (by have := (ho.lt k hk).1; omega)
theorem Ru.count (h : Ru B W ub va vb uv l n) (m : Nat) : Ru B (W.setCell ⟨ub, 3, none⟩ (.int .i64 (m : Int))) ub va vb uv l m ∧ St (fun k => k = ub) W (W.setCell ⟨ub, 3, none⟩ (.int .i64 (m : Int))) := by
  have s : St (fun k => k = ub) W (W.setCell ⟨ub, 3, none⟩ (.int .i64 (m : Int))) := St.setCell _ rfl
  have b3 := heap_setCell_same _ ub 3 _ _ (.int .i64 (m : Int)) h.box
  exact ⟨⟨by simpa using b3, own_later h.row fun k _ hk hb' => s.at hb' (h.ne_row hk), h.low, h.few⟩, s⟩
end
end Go.Proofs.YtbfjijiakkopeaaDoor.Gs
