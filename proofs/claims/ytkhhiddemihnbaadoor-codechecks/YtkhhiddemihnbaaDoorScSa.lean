/- For Check: what an append keeps; one error of a row. -/
import Derived.Test.YtkhhiddemihnbaaDoorKq
import Derived.Test.YtkhhiddemihnbaaDoorKr
import Derived.Test.YtkhhiddemihnbaaDoorKj
import Derived.Maps.AppendAt
import Derived.Maps.OwnSet
namespace Go.Proofs.YtkhhiddemihnbaaDoor.Sc
open Go.RowKit Go.Shelf
/-- append of a row of errors onto an owned one: what was not the owned block stays. -/
theorem wpList_errsG (w : World) {ops : Array Oper} {rest : List Oper} {o : Oper} {a : Act} {Q : Exit → Act → World → Prop} (hgd : o.guard = none) (s x : Operand)
    (ho : o.op = .call { callee := .builtin .append, args := #[s, x], argTypes := #[75, 75] })
    (base : Nat) (v : Value) (xs : List Value) (hs : a.eval s = v) (hown : w.ownsRow base 42 1 v xs.length xs)
    (g c : Nat) (l : List Value) (hx : a.eval x = .slice (some ⟨g, 0, none⟩) l.length c) (hrow : ∀ (j : Nat) u, l[j]? = some u → w.cell? ⟨g, j, none⟩ = some u) (h1 : ∀ u ∈ l, u.oneCell' = true) (hlen : xs.length + l.length ≤ 5000) (hbase : base ≤ w.heap.size)
    (h : ∀ ga gc (y : List Value) w', Hid (y = xs ++ l) → Hid (w'.ownsRow base 42 1 (.slice ga y.length gc) y.length y) → Hid (w.grownBy w' v.ownBlock) → Hid (Below base w w') → wpList Tryd.prog ops Q rest (a.put o.dst (.slice ga y.length gc)) w') :
    wpList Tryd.prog ops Q (o :: rest) a w := by
  obtain ⟨i0, hi, hz0, hz1, hz2⟩ := info_parts Tryd.infoErr
  refine wpList_append_own_at w hgd s x 75 ho base 42 i0 .nilIface 1 16 Tryd.underlying75 hi hz0 hz1 hz2 rfl (by decide) v xs.length xs hs hown ⟨g, 0, none⟩ l.length c l hx (by simp) (fun j u hu => by rw [add_at]; exact hrow j u hu) h1 (by simp [maxLen]; omega) (by omega) hbase ?_
  intro v' w' hown' hgrow _ _
  have e : xs.length + l.length = (xs ++ l).length := by simp
  rw [e] at hown'
  obtain ⟨ga, gc, rfl⟩ := own_slice hown'
  exact h ga gc (xs ++ l) w' rfl hown' hgrow ((Below.refl _ _).grown hgrow hbase (fun k hk => own_block hown hk))
/-- No text lies at a row's head. -/
def NoText (w : World) (g : Nat) : Prop := ∀ s, w.cell? ⟨g, 0, none⟩ ≠ some (.string s)
theorem _root_.Go.Proofs.YtkhhiddemihnbaaDoor.Ch.grown {Ad : Nat → Addr} {n₀ k g : Nat} {W W' : World} (hg : W.grownBy W' (some g)) (hn : n₀ ≤ W.heap.size) (hr : NoText W g) : ∀ {us : List ByteArray} {v : Value}, Ch Ad n₀ W k us v → Ch Ad n₀ W' k us v
  | [], _, h => h
  | s :: us, _, ⟨b, inner, hv, hb, c0, c1, hi⟩ => by
    have hne : b ≠ g := fun e => hr s (by rw [← e]; exact c0)
    have hbl := hg.block b (by omega) (fun e => hne (by simpa using e))
    exact ⟨b, inner, hv, hb, (World.cell?_of_block (w := W) (a := ⟨b, 0, none⟩) hbl).trans c0, (World.cell?_of_block (w := W) (a := ⟨b, 1, none⟩) hbl).trans c1, Ch.grown hg hn hr hi⟩
/-- One error of a row: none, or one leaf. -/
def One (Ad : Nat → Addr) (n₀ : Nat) (W : World) (v : Value) (ls : List (List ByteArray × Nat)) : Prop := (v = .nilIface ∧ ls = []) ∨ ∃ p, ls = [p] ∧ Chn Ad n₀ W 3 v p
theorem One.top {Ad : Nat → Addr} {n₀ : Nat} {W : World} {v : Value} {ls : List (List ByteArray × Nat)} (h : One Ad n₀ W v ls) : Top Ad n₀ W 3 v ls := by
  rcases h with ⟨rfl, rfl⟩ | ⟨p, rfl, h⟩
  · exact .empty
  · exact .one _ _ h
theorem One.move {Ad : Nat → Addr} {n₀ n₁ : Nat} {W W' : World} {v : Value} {ls : List (List ByteArray × Nat)} (h : One Ad n₀ W v ls) (hb : Below n₀ W W') (hn : n₀ ≤ n₁) : One Ad n₁ W' v ls := by
  rcases h with h | ⟨p, h1, h2⟩
  · exact .inl h
  · exact .inr ⟨p, h1, h2.move hb hn⟩
theorem One.grown {Ad : Nat → Addr} {n₀ g : Nat} {W W' : World} {v : Value} {ls : List (List ByteArray × Nat)} (h : One Ad n₀ W v ls) (hg : W.grownBy W' (some g)) (hn : n₀ ≤ W.heap.size) (hr : NoText W g) : One Ad W'.heap.size W' v ls := by
  rcases h with h | ⟨p, h1, h2⟩
  · exact .inl h
  · exact .inr ⟨p, h1, ((h2.1.grown hg hn hr).wider (Nat.le_trans hn hg.size)), h2.2⟩
theorem One.cell {Ad : Nat → Addr} {n₀ : Nat} {W : World} {v : Value} {ls : List (List ByteArray × Nat)} (h : One Ad n₀ W v ls) : v.oneCell' = true ∧ ∀ s, v ≠ .string s := by
  rcases h with ⟨rfl, -⟩ | ⟨p, -, h⟩
  · exact ⟨rfl, by simp⟩
  · obtain ⟨t, q, rfl, -⟩ := h.1.shape
    exact ⟨rfl, by simp⟩
theorem _root_.Go.Proofs.YtkhhiddemihnbaaDoor.Top.single {Ad : Nat → Addr} {n₀ : Nat} {W : World} {v : Value} {ls : List (List ByteArray × Nat)} (h : Top Ad n₀ W 3 v ls) (hl : ls.length ≤ 1) : One Ad n₀ W v ls := by
  cases h using Top.ways with
  | empty => exact .inl ⟨rfl, rfl⟩
  | one v p h => exact .inr ⟨p, rfl, h⟩
  | many b vs h => have := h.two; simp at hl; omega
theorem own_more {w w' : World} {B n z : Nat} {e : TypeId} {v : Value} {xs : List Value} (h : w.ownsRow B e z v n xs) (hb : Below w.heap.size w w') : w'.ownsRow B e z v n xs := by
  refine ⟨h.1, ?_⟩
  rcases h.2 with h1 | ⟨g, cap, cur, h1, h2, h3, h4⟩
  · exact .inl h1
  · exact .inr ⟨g, cap, cur, h1, h2, (hb.block g (Array.getElem?_eq_some_iff.1 h3).1).trans h3, h4⟩
theorem Below.seen {B : Nat} {w w' : World} {p : Addr} {v : Value} (hb : Below B w w') (hB : w.heap.size ≤ B) (h : w.cell? p = some v) : w'.cell? p = some v :=
  (hb.cell (p := p) (Nat.lt_of_lt_of_le (World.block_lt_of_cell? w p h) hB)).trans h
end Go.Proofs.YtkhhiddemihnbaaDoor.Sc
