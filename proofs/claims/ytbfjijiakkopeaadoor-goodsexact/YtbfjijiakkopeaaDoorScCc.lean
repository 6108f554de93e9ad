/- The row of flaws: how it stands, and a flaw appended. -/
import Derived.Test.YtbfjijiakkopeaaDoorScCb
import Derived.Maps.AppendAt
import Derived.Deep.Onto
namespace Go.Proofs.YtbfjijiakkopeaaDoor.Sc
open Go.RowKit Go.Shelf
theorem Tryd.infoFl : (Tryd.prog.info? 77).map (fun i => (i.zero, i.size, i.bytes)) = some (some (.agg #[.string ⟨#[]⟩, .int .i64 0]), 2, 24) := by kernel_rfl
theorem leafCells_snoc (ls : Leaves) (p : List ByteArray × Nat) : leafCells (ls ++ [p]) = leafCells ls ++ [.string (joinB p.1), .int .i64 (p.2 : Int)] := by simp [leafCells]
/-- How the row of flaws stands. -/
structure FL (w0 : World) (o : Value) (ls : Leaves) (wr : World) : Prop where
  own : wr.ownsRow w0.heap.size 77 2 o ls.length (leafCells ls)
  bel : Below w0.heap.size w0 wr
  len : ls.length ≤ 1000
variable {w0 wr w1 : World} {o o' : Value} {ls ls' : Leaves} {g : Nat} {x : Cmp}
theorem FL.later (h : FL w0 o ls wr) (hb : Below wr.heap.size wr w1) : FL w0 o ls w1 := ⟨own_more h.own hb, h.bel.trans (hb.mono h.bel.size), h.len⟩
/-- Besides: a component that was copied into a block of its own. -/
structure FG (w0 : World) (g : Nat) (x : Cmp) (o : Value) (ls : Leaves) (wr : World) : Prop where
  fl : FL w0 o ls wr
  cells : Cells7 g x wr
  ne : o.ownBlock ≠ some g
theorem Cells7.later (h : Cells7 g x wr) (hb : Below wr.heap.size wr w1) : Cells7 g x w1 := by
  obtain ⟨c0, c1, c2, c3, c4, c5, c6⟩ := h
  have S := fun {p : Addr} {u : Value} (h : wr.cell? p = some u) => Below.seen hb (Nat.le_refl _) h
  exact ⟨S c0, S c1, S c2, S c3, S c4, S c5, S c6⟩
theorem FG.later (h : FG w0 g x o ls wr) (hb : Below wr.heap.size wr w1) : FG w0 g x o ls w1 := ⟨h.fl.later hb, h.cells.later hb, h.ne⟩
theorem FG.lt (h : FG w0 g x o ls wr) : g < wr.heap.size := World.block_lt_of_cell? wr _ h.cells.1
/-- What an append leaves. -/
def Lft (w w' : World) (v v' : Value) : Prop := (∀ g, g < w.heap.size → v.ownBlock ≠ some g → w'.heap[g]? = w.heap[g]?) ∧ (v'.ownBlock = v.ownBlock ∨ v'.ownBlock = some (w.heap.size + 1))
theorem FG.app (h : FG w0 g x o ls wr) (F : FL w0 o' ls' w1) (K : Lft wr w1 o o') : FG w0 g x o' ls' w1 := by
  have hl := h.lt
  have hb := K.1 g hl h.ne
  obtain ⟨c0, c1, c2, c3, c4, c5, c6⟩ := h.cells
  have S := fun {j : Nat} {u : Value} (h : wr.cell? ⟨g, j, none⟩ = some u) => (World.cell?_of_block (a := ⟨g, j, none⟩) hb).trans h
  refine ⟨F, ⟨S c0, S c1, S c2, S c3, S c4, S c5, S c6⟩, ?_⟩
  rcases K.2 with e | e
  · rw [e]; exact h.ne
  · rw [e]; intro e2; simp at e2; omega
theorem wpList_flaw (w0 w : World) {ops : Array Oper} {rest : List Oper} {o : Oper} {a : Act} {Q : Exit → Act → World → Prop} (hgd : o.guard = none) (s x : Operand)
    (ho : o.op = .call { callee := .builtin .append, args := #[s, x], argTypes := #[37, 37] })
    (v : Value) (ls : Leaves) (hs : a.eval s = v) (F : FL w0 v ls w) (p : List ByteArray) (k : Nat) (P : ByteArray) (hP : P = joinB p)
    (hx : a.eval x = .slice (some ⟨w.heap.size, 0, none⟩) 1 1) (hlen : ls.length + 1 ≤ 1000)
    (h : ∀ v' w', Hid (FL w0 v' (ls ++ [(p, k)]) w') → Hid (Lft w w' v v') → wpList Tryd.prog ops Q rest (a.put o.dst v') w') :
    wpList Tryd.prog ops Q (o :: rest) a (w.alloc (.cells #[.string P, .int .i64 (k : Int)] 77)) := by
  subst hP
  obtain ⟨i0, hi, hz0, hz1, hz2⟩ := info_parts Tryd.infoFl
  obtain ⟨c0, c1⟩ := cell_new2 w (.string (joinB p)) (.int .i64 (k : Int)) 77
  have hown := F.own.alloc (.cells #[.string (joinB p), .int .i64 (k : Int)] 77)
  have hbase : w0.heap.size ≤ (w.alloc (.cells #[.string (joinB p), .int .i64 (k : Int)] 77)).heap.size := Nat.le_trans F.bel.size (by simp)
  refine wpList_append_own_at _ hgd s x 37 ho w0.heap.size 77 i0 (.agg #[.string ⟨#[]⟩, .int .i64 0]) 2 24 Tryd.underlying37 hi hz0 hz1 hz2 rfl (by decide) v ls.length (leafCells ls) hs hown ⟨w.heap.size, 0, none⟩ 1 1 [.string (joinB p), .int .i64 (k : Int)] hx rfl (fun j u hu => ?_) (by intro u hu; simp at hu; rcases hu with rfl | rfl <;> rfl) (by simp [maxLen]; omega) (by omega) hbase ?_
  · rw [add_at]
    match j, hu with
    | 0, hu => simp at hu; subst hu; exact c0
    | 1, hu => simp at hu; subst hu; exact c1
    | j + 2, hu => simp at hu
  · intro v' w' hown' hgrow _ hat
    refine h v' w' ⟨?_, ?_, by rw [List.length_append]; exact hlen⟩ ⟨fun g hg hne => ?_, ?_⟩
    · rw [leafCells_snoc, List.length_append]
      exact hown'
    · exact (F.bel.alloc F.bel.size _).grown hgrow (Nat.le_trans F.bel.size (by simp)) (fun k hk => own_block hown hk)
    · rw [hgrow.block g (by simp; omega) (fun e => hne e.symm)]
      exact Array.getElem?_push_lt hg |>.trans (Array.getElem?_eq_getElem hg).symm
    · rcases hat with h1 | h1
      · exact .inl h1
      · right; rw [h1]; simp
end Go.Proofs.YtbfjijiakkopeaaDoor.Sc
