/- For bunch: what an append keeps; the leaves of rows. -/
import Derived.Test.YthmiacpaefjanaaDoorTc
namespace Go.Proofs.YthmiacpaefjanaaDoor
open Go.RowKit Go.Shelf
/-- append of a row of errors onto an owned one: what was not the owned block stays. -/
theorem wpList_errsG (w : World) {ops : Array Oper} {rest : List Oper} {o : Oper} {a : Act} {Q : Exit → Act → World → Prop} (hgd : o.guard = none) (s x : Operand)
    (ho : o.op = .call { callee := .builtin .append, args := #[s, x], argTypes := #[59, 59] })
    (base : Nat) (v : Value) (xs : List Value) (hs : a.eval s = v) (hown : w.ownsRow base 26 1 v xs.length xs)
    (g c : Nat) (l : List Value) (hx : a.eval x = .slice (some ⟨g, 0, none⟩) l.length c) (hrow : ∀ (j : Nat) u, l[j]? = some u → w.cell? ⟨g, j, none⟩ = some u) (h1 : ∀ u ∈ l, u.oneCell' = true) (hlen : xs.length + l.length ≤ 5000) (hbase : base ≤ w.heap.size)
    (h : ∀ ga gc (y : List Value) w', Hid (y = xs ++ l) → Hid (w'.ownsRow base 26 1 (.slice ga y.length gc) y.length y) → Hid (w.grownBy w' v.ownBlock) → Hid (Below base w w') → wpList Tryd.prog ops Q rest (a.put o.dst (.slice ga y.length gc)) w') :
    wpList Tryd.prog ops Q (o :: rest) a w := by
  obtain ⟨i0, hi, hz0, hz1, hz2⟩ := info_parts Tryd.infoErr
  refine wpList_append_own_at w hgd s x 59 ho base 26 i0 .nilIface 1 16 Tryd.underlying59 hi hz0 hz1 hz2 rfl (by decide) v xs.length xs hs hown ⟨g, 0, none⟩ l.length c l hx (by simp) (fun j u hu => by rw [add_at]; exact hrow j u hu) h1 (by simp [maxLen]; omega) (by omega) hbase ?_
  intro v' w' hown' hgrow _ _
  have e : xs.length + l.length = (xs ++ l).length := by simp
  rw [e] at hown'
  obtain ⟨ga, gc, rfl⟩ := own_slice hown'
  exact h ga gc (xs ++ l) w' rfl hown' hgrow ((Below.refl _ _).grown hgrow hbase (fun k hk => own_block hown hk))
/-- No text lies at a row's head. -/
def NoText (w : World) (g : Nat) : Prop := ∀ s, w.cell? ⟨g, 0, none⟩ ≠ some (.string s)
theorem Ch.grown {Ad : Nat → Addr} {n₀ k g : Nat} {W W' : World} (hg : W.grownBy W' (some g)) (hn : n₀ ≤ W.heap.size) (hr : NoText W g) : ∀ {us : List ByteArray} {v : Value}, Ch Ad n₀ W k us v → Ch Ad n₀ W' k us v
  | [], _, h => h
  | s :: us, _, ⟨b, inner, hv, hb, c0, c1, hi⟩ => by
    have hne : b ≠ g := fun e => hr s (by rw [← e]; exact c0)
    have hbl := hg.block b (by omega) (fun e => hne (by simpa using e))
    exact ⟨b, inner, hv, hb, (World.cell?_of_block (w := W) (a := ⟨b, 0, none⟩) hbl).trans c0, (World.cell?_of_block (w := W) (a := ⟨b, 1, none⟩) hbl).trans c1, Ch.grown hg hn hr hi⟩
/-- One error of a row: none, or one leaf. -/
def One (Ad : Nat → Addr) (n₀ : Nat) (W : World) (v : Value) (ls : List (List ByteArray × Nat)) : Prop := (v = .nilIface ∧ ls = []) ∨ ∃ p, ls = [p] ∧ Chn Ad n₀ W 12 v p
theorem One.top {Ad : Nat → Addr} {n₀ : Nat} {W : World} {v : Value} {ls : List (List ByteArray × Nat)} (h : One Ad n₀ W v ls) : Top Ad n₀ W 12 v ls := by
  rcases h with ⟨rfl, rfl⟩ | ⟨p, rfl, h⟩
  · exact .empty
  · exact .one _ _ h
theorem One.move {Ad : Nat → Addr} {n₀ n₁ : Nat} {W W' : World} {v : Value} {ls : List (List ByteArray × Nat)} (h : One Ad n₀ W v ls) (hb : Below n₀ W W') (hn : n₀ ≤ n₁) : One Ad n₁ W' v ls := by
  rcases h with h | ⟨p, h1, h2⟩
  · exact .inl h
  · exact .inr ⟨p, h1, h2.move hb hn⟩
theorem One.grown {Ad : Nat → Addr} {n₀ g : Nat} {W W' : World} {v : Value} {ls : List (List ByteArray × Nat)} (h : One Ad n₀ W v ls) (hg : W.grownBy W' (some g)) (hn : n₀ ≤ W.heap.size) (hr : NoText W g) : One Ad W'.heap.size W' v ls := by
  rcases h with h | ⟨p, h1, h2⟩
  · exact .inl h
  · exact .inr ⟨p, h1, ((h2.1.grown hg hn hr).wider (Nat.le_trans hn hg.size)), h2.2⟩
theorem One.cell {Ad : Nat → Addr} {n₀ : Nat} {W : World} {v : Value} {ls : List (List ByteArray × Nat)} (h : One Ad n₀ W v ls) : v.oneCell' = true ∧ ∀ s, v ≠ .string s := by
  rcases h with ⟨rfl, -⟩ | ⟨p, -, h⟩
  · exact ⟨rfl, by simp⟩
  · obtain ⟨t, q, rfl, -⟩ := h.1.shape
    exact ⟨rfl, by simp⟩
theorem leafOf_len (ts : List Twg) : (leafOf ts).length ≤ 1 := by
  unfold leafOf
  split
  · split <;> simp
  · simp
theorem Top.single {Ad : Nat → Addr} {n₀ : Nat} {W : World} {v : Value} {ls : List (List ByteArray × Nat)} (h : Top Ad n₀ W 12 v ls) (hl : ls.length ≤ 1) : One Ad n₀ W v ls := by
  cases h with
  | empty => exact .inl ⟨rfl, rfl⟩
  | one v p h => exact .inr ⟨p, rfl, h⟩
  | many b vs h => have := h.two; simp at hl; omega
/-- The leaves of rows. -/
def leaves2 (rs : List (Value × List Twg)) : List (List ByteArray × Nat) := (rs.map fun r => leafOf r.2).flatten
theorem leaves2_next {rs : List (Value × List Twg)} {k : Nat} {r : Value × List Twg} (h : rs.take (k + 1) = rs.take k ++ [r]) : leaves2 (rs.take (k + 1)) = leaves2 (rs.take k) ++ leafOf r.2 := by
  rw [h]; simp [leaves2]
theorem leaves2_len : ∀ rs : List (Value × List Twg), (leaves2 rs).length ≤ rs.length
  | [] => by simp [leaves2]
  | r :: rs => by
    have h1 := leaves2_len rs
    have h2 := leafOf_len r.2
    simp only [leaves2, List.map_cons, List.flatten_cons, List.length_append, List.length_cons] at h1 ⊢
    omega
theorem cells_one {Ad : Nat → Addr} {n₀ d : Nat} {W : World} {v : Value} {ls : List (List ByteArray × Nat)} (h : Top Ad n₀ W d v ls) : v.cells = #[v] ∧ v.oneCell' = true := by
  rcases h.tr.isIface with rfl | ⟨t, q, rfl⟩ <;> exact ⟨rfl, rfl⟩
theorem rem4 (m : Int) : ∃ (u : Int) (n : Nat), n < 4 ∧ IntKind.u64.wrap m = u ∧ u.tmod 4 = (n : Int) := by
  have h : 0 ≤ IntKind.u64.wrap m := by
    show 0 ≤ m % _
    exact Int.emod_nonneg _ (by decide)
  obtain ⟨n, hn⟩ := Int.eq_ofNat_of_zero_le h
  refine ⟨n, n % 4, Nat.mod_lt _ (by decide), hn, ?_⟩
  rw [show (4 : Int) = ((4 : Nat) : Int) from rfl, ← Int.ofNat_tmod]
/-- How bunch stands ahead of row k. -/
structure Bn (Ad : Nat → Addr) (w : World) (rs : List (Value × List Twg)) (k : Nat) (ev : Value) (g gc : Nat) (us : List (Value × List (List ByteArray × Nat))) (wr : World) : Prop where
  ex : ∃ B LE, w.heap.size ≤ B ∧ B ≤ wr.heap.size ∧ Top Ad B wr 12 ev LE ∧ wr.ownsRow B 26 1 (.slice (some ⟨g, 0, none⟩) us.length gc) us.length (us.map Prod.fst) ∧ LE ++ (us.map Prod.snd).flatten = leaves2 (rs.take k)
  nt : NoText wr g
  one : ∀ u ∈ us, One Ad wr.heap.size wr u.1 u.2
  kept : Below w.heap.size w wr
theorem own_below {w w' : World} {B n : Nat} {v : Value} {xs : List Value} (h : w.ownsRow B 26 1 v n xs) (hb : Below w.heap.size w w') : w'.ownsRow B 26 1 v n xs :=
  own_later h fun g _ _ hg => (hb.block g ((Array.getElem?_eq_some_iff.1 hg).1)).trans hg
theorem notext_empty (w : World) : NoText (w.alloc (.cells #[] 26)) w.heap.size := by
  intro s h
  rw [cell_of_row _ _ 0 #[] 26 (0, 0) (heap_alloc_new w _)] at h
  simp at h
theorem Bn.empty {Ad : Nat → Addr} {w wr : World} {rs : List (Value × List Twg)} {k : Nat} {ev : Value} (hT : Top Ad wr.heap.size wr 12 ev (leaves2 (rs.take k))) (hb : Below w.heap.size w wr) : Bn Ad w rs k ev wr.heap.size 0 [] (wr.alloc (.cells #[] 26)) := by
  have b1 : Below wr.heap.size wr (wr.alloc (.cells #[] 26)) := (Below.refl _ _).alloc (Nat.le_refl _) _
  refine ⟨⟨wr.heap.size, _, hb.size, by simp, hT.move b1 (Nat.le_refl _), ?_, by simp⟩, notext_empty wr, by simp, hb.trans (b1.mono hb.size)⟩
  exact World.ownsRow_lit (base := wr.heap.size) (e := 26) (size := 1) wr #[] 0 (Nat.le_refl _) (by simp) (by simp)
end Go.Proofs.YthmiacpaefjanaaDoor
