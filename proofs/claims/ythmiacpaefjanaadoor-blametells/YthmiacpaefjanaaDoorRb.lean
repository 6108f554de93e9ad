/- The reference's Leaves. -/
import Derived.Test.YthmiacpaefjanaaDoorRa
import Derived.Maps.AppendAt
namespace Go.Proofs.YthmiacpaefjanaaDoor
open Go.RowKit Go.Shelf
theorem Tryd.infoLf : (Tryd.prog.info? 36).map (fun i => (i.zero, i.size, i.bytes)) = some (some (.agg #[.string ⟨#[]⟩, .int .i64 0]), 2, 24) := by kernel_rfl
theorem leafCells_snoc (ls : List (List ByteArray × Nat)) (p : List ByteArray × Nat) : leafCells (ls ++ [p]) = leafCells ls ++ [.string (joinB p.1), .int .i64 (p.2 : Int)] := by simp [leafCells]
theorem wpList_leaf (w : World) {ops : Array Oper} {rest : List Oper} {o : Oper} {a : Act} {Q : Exit → Act → World → Prop} (hgd : o.guard = none) (s x : Operand)
    (ho : o.op = .call { callee := .builtin .append, args := #[s, x], argTypes := #[28, 28] })
    (base : Nat) (v : Value) (ls : List (List ByteArray × Nat)) (hs : a.eval s = v) (hown : w.ownsRow base 36 2 v ls.length (leafCells ls))
    (g : Nat) (p : List ByteArray × Nat) (hx : a.eval x = .slice (some ⟨g, 0, none⟩) 1 1) (c0 : w.cell? ⟨g, 0, none⟩ = some (.string (joinB p.1))) (c1 : w.cell? ⟨g, 1, none⟩ = some (.int .i64 (p.2 : Int))) (hlen : ls.length ≤ 1000) (hbase : base ≤ w.heap.size)
    (h : ∀ v' w', Hid (w'.ownsRow base 36 2 v' (ls ++ [p]).length (leafCells (ls ++ [p]))) → Hid (Below base w w') → wpList Tryd.prog ops Q rest (a.put o.dst v') w') :
    wpList Tryd.prog ops Q (o :: rest) a w := by
  obtain ⟨i0, hi, hz0, hz1, hz2⟩ := info_parts Tryd.infoLf
  refine wpList_append_own_at w hgd s x 28 ho base 36 i0 (.agg #[.string ⟨#[]⟩, .int .i64 0]) 2 24 Tryd.underlying28 hi hz0 hz1 hz2 rfl (by decide) v ls.length (leafCells ls) hs hown ⟨g, 0, none⟩ 1 1 [.string (joinB p.1), .int .i64 (p.2 : Int)] hx rfl (fun j u hu => ?_) (by intro u hu; simp at hu; rcases hu with rfl | rfl <;> rfl) (by simp [maxLen]; omega) (by omega) hbase ?_
  · rw [add_at]
    match j, hu with
    | 0, hu => simp at hu; subst hu; exact c0
    | 1, hu => simp at hu; subst hu; exact c1
    | j + 2, hu => simp at hu
  · intro v' w' hown' hgrow _ _
    refine h v' w' ?_ ((Below.refl _ _).grown hgrow hbase (fun k hk => own_block hown hk))
    show w'.ownsRow _ _ _ _ _ _
    rw [leafCells_snoc, List.length_append]
    exact hown'
theorem ways_next {ts : List Twg} {k : Nat} {t : Twg} (h : ts[k]? = some t) : ways (ts.take (k + 1)) = ways (ts.take k) ++ (if t.k == 1 then [t.s] else []) := by
  rw [take_next h]
  unfold ways
  by_cases h1 : t.k == 1 <;> simp [h1]
theorem joinB_nil : joinB [] = ⟨#[]⟩ := by kernel_rfl
theorem joinB_snoc : ∀ (ps : List ByteArray) (s : ByteArray), ps ≠ [] → joinB (ps ++ [s]) = joinB ps ++ ⟨#[47]⟩ ++ s
  | [], _, h => absurd rfl h
  | [p], s, _ => by
    show joinB (p :: [s]) = _
    rw [joinB_more p [s] (by simp), joinB_one, joinB_one]
    apply ByteArray.ext; simp
  | p :: q :: r, s, _ => by
    have ih := joinB_snoc (q :: r) s (by simp)
    show joinB (p :: (q :: r ++ [s])) = _
    rw [joinB_more p _ (by simp), ih, joinB_more p (q :: r) (by simp)]
    apply ByteArray.ext; simp
theorem ways_any (ts : List Twg) : ts.any wayB = decide (ways ts ≠ []) := by
  unfold ways wayB
  rw [Bool.eq_iff_iff]
  simp [List.any_eq_true]
theorem ways_small {ts : List Twg} (h : SmallT ts) (k : Nat) : (joinB (ways (ts.take k))).size ≤ 100000 := by
  have hl := ways_len (ts.take k)
  rw [List.length_take] at hl
  have h12 := h.1
  refine join_le _ (fun x hx => ?_) (by omega)
  unfold ways at hx
  obtain ⟨t, ht, rfl⟩ := List.mem_map.1 hx
  exact h.2 t (List.mem_of_mem_take (List.mem_filter.1 ht).1)
theorem TwRow.cut {w : World} {b o c : Nat} {ts : List Twg} (h : Cells3 w b o ts) (k : Nat) (hk : k ≤ ts.length) : TwRow w (.slice (some ⟨b, o, none⟩) k c) (ts.take k) := by
  refine ⟨some ⟨b, o, none⟩, c, by rw [List.length_take, Nat.min_eq_left hk], .inr ⟨b, o, rfl, fun j t hj => h j t ?_⟩⟩
  rw [List.getElem?_take] at hj
  split at hj
  · exact hj
  · simp at hj
end Go.Proofs.YthmiacpaefjanaaDoor
