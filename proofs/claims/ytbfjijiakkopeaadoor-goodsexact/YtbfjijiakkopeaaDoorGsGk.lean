/- GoodsBack: rows of numbers; the walk. -/
import Derived.Test.YtbfjijiakkopeaaDoorGsGj
namespace Go.Proofs.YtbfjijiakkopeaaDoor.Gs
open Go.RowKit Go.Shelf Go.Maps
open Go.Proofs.YtbfjijiakkopeaaDoor.Sc (Rsc RscRow)
theorem drewN_below (W : World) (m : Nat) : Below W.heap.size W (W.drewN m) := by
  induction m generalizing W with
  | zero => exact Below.refl _ _
  | succ m ih => exact (ih W).drew
/-- A row that is owned, as a block. -/
theorem own_blk {B : Nat} {W : World} {v : Value} {l : List Int} (h : W.ownsRow B 3 1 v l.length (l.map gz)) (h0 : 0 < l.length) :
    ∃ g cap cur, v = .slice (some ⟨g, 0, none⟩) l.length cap ∧ B ≤ g ∧ W.heap[g]? = some (.cells cur 3 (0, 0)) ∧ ∀ (j : Nat) x, l[j]? = some x → cur[j]? = some (.int .i64 x) := by
  rcases h with ⟨-, ⟨-, h2⟩ | ⟨g, cap, cur, h1, h2, h3, h4, h5, h6, h7⟩⟩
  · omega
  · refine ⟨g, cap, cur, h1, h2, h3, fun j x hj => ?_⟩
    have hlt := (List.getElem?_eq_some_iff.1 hj).1
    have e : (cur.toList.take (l.length * 1))[j]? = some (gz x) := by rw [h7, List.getElem?_map, hj]; rfl
    rw [List.getElem?_take_of_lt (by omega)] at e
    rw [← Array.getElem?_toList]
    exact e
/-- A block that holds a row. -/
def Hold (cur : Array Value) (l : List Int) : Prop := ∀ (j : Nat) x, l[j]? = some x → cur[j]? = some (.int .i64 x)
theorem Hold.row {W : World} {g c : Nat} {cur : Array Value} {l : List Int} (h : Hold cur l) (hb : W.heap[g]? = some (.cells cur 3 (0, 0))) : LRow W (.slice (some ⟨g, 0, none⟩) l.length c) l :=
  ⟨some ⟨g, 0, none⟩, c, rfl, .inr ⟨g, 0, rfl, fun j x hx => by rw [Nat.zero_add]; exact cell_blk hb (h j x hx)⟩⟩
theorem Hold.vrow {S : Nat → Prop} {W : World} {g c : Nat} {cur : Array Value} {l : List Int} (h : Hold cur l) (hb : W.heap[g]? = some (.cells cur 3 (0, 0))) (hn : ¬ S g) : VRow S W (.slice (some ⟨g, 0, none⟩) l.length c) l :=
  ⟨some ⟨g, 0, none⟩, c, rfl, .inr ⟨g, 0, rfl, hn, fun j x hx => by rw [Nat.zero_add]; exact cell_blk hb (h j x hx)⟩⟩
theorem own_lrow {B : Nat} {W : World} {v : Value} {l : List Int} (h : W.ownsRow B 3 1 v l.length (l.map gz)) : LRow W v l := by
  by_cases h0 : 0 < l.length
  · obtain ⟨g, cap, cur, rfl, -, h3, h4⟩ := own_blk h h0
    exact Hold.row h4 h3
  · obtain ⟨a, c, e⟩ := own_slice h
    exact ⟨a, c, e, .inl (List.length_eq_zero_iff.1 (by omega))⟩
set_option maxHeartbeats 1600000 in
set_option maxRecDepth 100000 in
theorem same_any (W : World) (v u : Value) (xs : List Int) (h : LRow W v xs) (h' : LRow W u xs) (hl : xs.length ≤ 1000) :
    Calls Tryd.prog 23 #[v, u] W fun e W' => e = .returned (.bool true) ∧ Below W.heap.size W W' := by
  have H := hid h
  have H' := hid h'
  obtain ⟨a, c, rfl, -⟩ := h
  obtain ⟨a', c', rfl, -⟩ := h'
  have hli : (xs.length : Int) ≤ 1000 := by omega
  go_enter Tryd.func23, Tryd.ntmps23
  go_wp2_with fail
  go_loopg [5] xs.length (fun gh i wr => ∃ k : Nat, k ≤ xs.length ∧ gh = xs.length - k ∧ i = .int .i64 (k : Int) ∧ Hid (Below W.heap.size W wr))
  case atStart => exact ⟨0, Nat.zero_le _, rfl, rfl, Below.refl _ _⟩
  case round =>
    rename World => wr
    obtain ⟨k, hk, rfl, rfl, HB⟩ := hrel
    by_cases hlt : k < xs.length
    · have hki : (k : Int) < (xs.length : Int) := by omega
      obtain ⟨x, hx⟩ := at_lt xs k hlt
      obtain ⟨b, o, rfl, d0⟩ : ∃ b o, a = some ⟨b, o, none⟩ ∧ wr.cell? ⟨b, o + k, none⟩ = some (.int .i64 x) := by
        obtain ⟨a2, c2, hv, hl2⟩ := H.out.later HB.out
        obtain ⟨rfl, rfl⟩ : a = a2 ∧ c = c2 := by simpa using hv
        rcases hl2 with q | ⟨b, o, q1, q2⟩
        · rw [q] at hlt; simp at hlt
        · exact ⟨b, o, q1, q2 k x hx⟩
      obtain ⟨b', o', rfl, d1⟩ : ∃ b o, a' = some ⟨b, o, none⟩ ∧ wr.cell? ⟨b, o + k, none⟩ = some (.int .i64 x) := by
        obtain ⟨a2, c2, hv, hl2⟩ := H'.out.later HB.out
        obtain ⟨rfl, rfl⟩ : a' = a2 ∧ c' = c2 := by simpa using hv
        rcases hl2 with q | ⟨b, o, q1, q2⟩
        · rw [q] at hlt; simp at hlt
        · exact ⟨b, o, q1, q2 k x hx⟩
      clear hx
      go_wp2_with fail
      go_quiet (fail)
      go_wp2_with fail
      go_roundg (xs.length - (k + 1))
      case measure => omega
      case rel => exact ⟨k + 1, by omega, rfl, by go_num, by first | exact HB.out | exact HB.out.drew | exact HB.out.trans ((drewN_below _ _).mono HB.out.size)⟩
    · have hki : ¬ (k : Int) < (xs.length : Int) := by omega
      clear hk hlt
      go_wp2_with fail
      go_ret
      exact ⟨rfl, HB.out⟩
end Go.Proofs.YtbfjijiakkopeaaDoor.Gs
