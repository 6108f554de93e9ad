/- SchemaBack: what the second loop keeps. -/
import Derived.Test.YtmekfiafdjdopaaDoorZb
import Derived.Test.YtmekfiafdjdopaaDoorUd
import Derived.Deep.RegionHeld3
import Derived.Deep.AppendLies
import Derived.Deep.DrawnRows
import Derived.Deep.Cut
namespace Go.Proofs.YtmekfiafdjdopaaDoor
open Go.RowKit Go.Shelf
theorem IntRow.later {W W' : World} {v : Value} {ds : List Int} (h : IntRow W v ds) (hb : Below W.heap.size W W') : IntRow W' v ds := by
  obtain ⟨a, c, h1, h3⟩ := h
  refine ⟨a, c, h1, h3.imp id ?_⟩
  rintro ⟨b, o, ha, hc⟩
  exact ⟨b, o, ha, fun j x hx => Below.seen hb (Nat.le_refl _) (hc j x hx)⟩
/-- A row of numbers of the call's own, laid behind a world. -/
structure BK (w : World) (v : Value) (y : List Int) (W : World) : Prop where
  bel : Below w.heap.size w W
  own : W.ownsRow w.heap.size 3 1 v y.length (y.map iv)
theorem BK.drew {w W : World} {v : Value} {y : List Int} (h : BK w v y W) : BK w v y W.drew := ⟨h.bel.drew, h.own.drew⟩
theorem BK.cell {w W : World} {v : Value} {y : List Int} (h : BK w v y W) {p : Addr} {u : Value} (hc : w.cell? p = some u) : W.cell? p = some u := Below.seen h.bel (Nat.le_refl _) hc
theorem step_ints2 {ops : Array Oper} {o : Oper} {a : Act} {K : Act → World → Prop} {Q : Exit → Act → World → Prop} {E : Prop} (hgd : o.guard = none) (s x : Operand)
    (ho : o.op = .call { callee := .builtin .append, args := #[s, x], argTypes := #[60, 60] })
    {w wc : World} {v : Value} {y : List Int} (hC : BK w v y wc) (hul : y.length ≤ 1000) {n1 n2 : Int}
    (hs : a.eval s = v) (hx : a.eval x = .slice (some ⟨wc.heap.size, 0, none⟩) 2 2)
    (h : ∀ g' cap w2, BK w (.slice (some ⟨g', 0, none⟩) (y.length + 2) cap) (y ++ [n1, n2]) w2 → K (a.put o.dst (.slice (some ⟨g', 0, none⟩) (y.length + 2) cap)) w2) :
    if Region.wanted o (yielded ops a.tmps) = true then Oper.wp Tryd.prog o a (wc.alloc (.cells #[.int .i64 n1, .int .i64 n2] 3)) K Q else E := by
  obtain ⟨i0, hi, hz0, hz1, hz2⟩ := info_parts Tryd.infoInt
  have hb : Below w.heap.size w (wc.alloc (.cells #[.int .i64 n1, .int .i64 n2] 3)) := hC.bel.alloc hC.bel.size _
  have hown : (wc.alloc (.cells #[.int .i64 n1, .int .i64 n2] 3)).ownsRow w.heap.size 3 1 v y.length (y.map iv) := hC.own.alloc _
  have hone : ∀ u ∈ [iv n1, iv n2], u.oneCell' = true := by
    intro u hu
    simp only [List.mem_cons, List.not_mem_nil, or_false] at hu
    rcases hu with rfl | rfl <;> rfl
  refine step_append_lies _ hgd s x 60 ho w.heap.size 3 i0 (.int .i64 0) 1 8 Tryd.underInts hi hz0 hz1 hz2 rfl (by decide) v y.length (y.map iv) hs hown ⟨wc.heap.size, 0, none⟩ 2 2 [iv n1, iv n2] hx rfl (fun j u hu => by rw [add_at]; exact row_cell wc [iv n1, iv n2] 3 j u hu) hone (by decide) (by unfold maxLen; omega) (by omega) hb.size (wc.alloc (.cells #[.int .i64 n1, .int .i64 n2] 3)).heap.size rfl ?_
  intro g' cap w2 ow hg _ _
  refine h g' cap w2 ⟨hb.grown hg hb.size (fun k hk => own_block hown hk), ?_⟩
  have e : (y ++ [n1, n2]).length = y.length + 2 := by simp
  rw [e, List.map_append]
  exact ow
theorem step_ints2d {ops : Array Oper} {o : Oper} {a : Act} {K : Act → World → Prop} {Q : Exit → Act → World → Prop} {E : Prop} (hgd : o.guard = none) (s x : Operand)
    (ho : o.op = .call { callee := .builtin .append, args := #[s, x], argTypes := #[60, 60] })
    {w wc : World} {v : Value} {y : List Int} (hC : BK w v y wc) (hul : y.length ≤ 1000) {n1 n2 : Int}
    (hs : a.eval s = v) (hx : a.eval x = .slice (some ⟨wc.heap.size, 0, none⟩) 2 2)
    (h : ∀ g' cap w2, BK w (.slice (some ⟨g', 0, none⟩) (y.length + 2) cap) (y ++ [n1, n2]) w2 → K (a.put o.dst (.slice (some ⟨g', 0, none⟩) (y.length + 2) cap)) w2) :
    if Region.wanted o (yielded ops a.tmps) = true then Oper.wp Tryd.prog o a (wc.alloc (.cells #[.int .i64 n1, .int .i64 n2] 3)).drew K Q else E :=
  step_ints2 (wc := wc.drew) hgd s x ho hC.drew hul hs hx h
theorem drop_at {ns : List Int} {q : Nat} {x : Int} (h : ns[q]? = some x) : ns.drop q = x :: ns.drop (q + 1) := by
  rw [List.drop_eq_getElem?_toList_append, h]; rfl
theorem twice_at {ns : List Int} {q : Nat} {x : Int} (h : ns[q]? = some x) : twice (ns.drop q) = twice (ns.drop (q + 1)) ++ [x, x] := by rw [drop_at h]; rfl
theorem rev_at {ns : List Int} {q : Nat} {x : Int} (h : ns[q]? = some x) : ofM (ns.drop q).reverse = orI (ofM (ns.drop (q + 1)).reverse) x := by
  rw [drop_at h, List.reverse_cons]; unfold ofM; rw [List.foldl_append]; rfl
end Go.Proofs.YtmekfiafdjdopaaDoor
