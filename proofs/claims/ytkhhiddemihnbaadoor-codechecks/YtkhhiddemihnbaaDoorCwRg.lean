/- The document's Check: what a round tells, in four pieces; an instruction and its row laid. -/
import Derived.Test.YtkhhiddemihnbaaDoorCwRd
namespace Go.Proofs.YtkhhiddemihnbaaDoor.Cw
open Go.RowKit Go.Shelf
def pc (p : ByteArray) (k n : Nat) (q : Bool) : Leaves := if q then [([wC, dig k, p], n)] else []
theorem pc_t (p : ByteArray) (k n : Nat) : pc p k n true = [([wC, dig k, p], n)] := rfl
theorem pc_f (p : ByteArray) (k n : Nat) : pc p k n false = [] := rfl
theorem pc_len (p : ByteArray) (k n : Nat) (q : Bool) : (pc p k n q).length ≤ 1 := by cases q <;> simp [pc]
theorem pcs (cs : List Cmp) (rs : List Rsc) (m k : Nat) (x : Ins) (hk : known x.1 = true) :
    pc wA k (rnum x) (!rok cs rs m x) ++ pc wB k 1 (rcell cs rs m x && !inW x.2.2 (widthOf cs x.2.1)) ++ pc wA k 1 (decide (args x.1 < 1) && !(x.2.1 == 0)) ++ pc wB k 1 (decide (args x.1 < 2) && !(x.2.2 == 0)) = insL cs rs m k x := by
  unfold insL
  rw [if_pos hk, aNs_of hk, bNs_of hk]
  cases hr : rok cs rs m x with
  | false =>
    have ha := rok_args hk hr
    have hc : rcell cs rs m x = false := by unfold rcell; rw [hr]; simp
    rw [hc]
    by_cases h2 : args x.1 < 2
    · cases hb : (x.2.2 == 0) <;> simp [pc, at4, ha, h2]
    · simp [pc, at4, ha, h2]
  | true =>
    cases hc : rcell cs rs m x with
    | true =>
      obtain ⟨h2, -⟩ := rcell_args hk hc
      rw [h2]
      cases hw : inW x.2.2 (widthOf cs x.2.1) <;> simp [pc, at4]
    | false =>
      by_cases h1 : args x.1 < 1 <;> by_cases h2 : args x.1 < 2 <;> cases ha : (x.2.1 == 0) <;> cases hb : (x.2.2 == 0) <;> simp [pc, at4, h1, h2]
variable {w0 wo wr : World} {g7 g9 : Nat} {x : Ins} {o : Value} {ls ls' : Leaves}
theorem FB.grown (h : FB w0 g7 g9 x o ls wr) (e : ls = ls') : FB w0 g7 g9 x o ls' wr := e ▸ h
theorem fb_new (F : FL w0 o ls wo) (x : Ins) (w2 : World) (hb : Below (wo.alloc (.cells #[.int .i64 x.1, .int .i64 x.2.1, .int .i64 x.2.2] 59)).heap.size (wo.alloc (.cells #[.int .i64 x.1, .int .i64 x.2.1, .int .i64 x.2.2] 59)) w2) :
    FB w0 wo.heap.size w2.heap.size x o ls (w2.alloc (.cells #[.string (word x.1), .int .i64 (args x.1), .int .i64 (takes x.1), .int .i64 (lays x.1)] 24)) := by
  have n1 := heap_alloc_new wo (.cells #[.int .i64 x.1, .int .i64 x.2.1, .int .i64 x.2.2] 59)
  have b1 := bAl wo (.cells #[.int .i64 x.1, .int .i64 x.2.1, .int .i64 x.2.2] 59)
  have b3 := bAl w2 (.cells #[.string (word x.1), .int .i64 (args x.1), .int .i64 (takes x.1), .int .i64 (lays x.1)] 24)
  have n3 := heap_alloc_new w2 (.cells #[.string (word x.1), .int .i64 (args x.1), .int .i64 (takes x.1), .int .i64 (lays x.1)] 24)
  have m1 := blk_seen (hb.trans (b3.mono hb.size)) (Nat.le_refl _) n1
  have hs : wo.heap.size < w2.heap.size := by have := hb.size; simp at this; omega
  have hlt : ∀ g, o.ownBlock = some g → g < wo.heap.size := fun g e => (F.own.lt _ e).2
  refine ⟨F.later (b1.trans ((hb.trans (b3.mono hb.size)).mono b1.size)), cell_blk m1 rfl, cell_blk m1 rfl, cell_blk m1 rfl, cell_blk n3 rfl, ?_, ?_⟩
  · intro e
    have := hlt _ e
    omega
  · intro e
    have := hlt _ e
    omega
theorem FB.cells (h : FB w0 g7 g9 x o ls wr) : wr.cell? ⟨g7, 0, none⟩ = some (.int .i64 x.1) ∧ wr.cell? ⟨g7, 1, none⟩ = some (.int .i64 x.2.1) ∧ wr.cell? ⟨g7, 2, none⟩ = some (.int .i64 x.2.2) ∧ wr.cell? ⟨g9, 1, none⟩ = some (.int .i64 (args x.1)) := ⟨h.i0, h.i1, h.i2, h.r1⟩
/-- The schema's box beside. -/
theorem FB.box {w : World} {va vb : Value} (h : FB w0 g7 g9 x o ls wr) (s0 : w0.cell? ⟨w.heap.size, 0, none⟩ = some va) (s1 : w0.cell? ⟨w.heap.size, 1, none⟩ = some vb) : wr.cell? ⟨w.heap.size, 0, none⟩ = some va ∧ wr.cell? ⟨w.heap.size, 1, none⟩ = some vb := ⟨seen h.fl.bel (Nat.le_refl _) s0, seen h.fl.bel (Nat.le_refl _) s1⟩
theorem joinB_path (p2 d p : ByteArray) (h : p2 = (⟨#[99, 111, 100, 101, 47]⟩ : ByteArray) ++ d ++ ⟨#[47]⟩) : p2 ++ p = joinB [wC, d, p] := by rw [h]; exact path_c d p
end Go.Proofs.YtkhhiddemihnbaaDoor.Cw
