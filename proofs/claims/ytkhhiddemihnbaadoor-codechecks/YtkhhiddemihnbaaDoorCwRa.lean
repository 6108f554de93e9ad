/- The document's Depths: what follows; numbers in a row that grows and is written. -/
import Derived.Test.YtkhhiddemihnbaaDoorCwLb
namespace Go.Proofs.YtkhhiddemihnbaaDoor.Cw
open Go.RowKit Go.Shelf
def nats (f : List Nat) : List Int := f.map Int.ofNat
theorem irow_two {W : World} {o : Obj} {d : List Int} (c : Nat) : IRow ((W.alloc o).alloc (.cells (d.map gZ).toArray 3)) (.slice (some ⟨W.heap.size + 1, 0, none⟩) d.length c) d := by
  have h := heap_alloc_new (W.alloc o) (.cells (d.map gZ).toArray 3)
  rw [World.size_alloc] at h
  exact irow_blk h
theorem irow_new {W : World} {d : List Int} (c : Nat) : IRow (W.alloc (.cells (d.map gZ).toArray 3)) (.slice (some ⟨W.heap.size, 0, none⟩) d.length c) d := irow_blk (heap_alloc_new W _)
/-- Numbers in memory, none of its cells in a block below B. -/
def IRowB (B : Nat) (W : World) (v : Value) (ds : List Int) : Prop := ∃ a c, v = .slice a ds.length c ∧ (ds = [] ∨ ∃ b o, a = some ⟨b, o, none⟩ ∧ B ≤ b ∧ ∀ (j : Nat) x, ds[j]? = some x → W.cell? ⟨b, o + j, none⟩ = some (.int .i64 x))
theorem IRowB.later {B : Nat} {W W' : World} {v : Value} {l : List Int} (h : IRowB B W v l) (hb : Below W.heap.size W W') : IRowB B W' v l := by
  obtain ⟨a, c, h1, h3⟩ := h
  exact ⟨a, c, h1, h3.imp id fun ⟨b, o, q1, q0, q2⟩ => ⟨b, o, q1, q0, fun j x hj => seen hb (Nat.le_refl _) (q2 j x hj)⟩⟩
theorem IRowB.set {B g q : Nat} {W : World} {v u : Value} {l : List Int} (h : IRowB B W v l) (hg : g < B) : IRowB B (W.setCell ⟨g, q, none⟩ u) v l := by
  obtain ⟨a, c, h1, h3⟩ := h
  refine ⟨a, c, h1, h3.imp id fun ⟨b, o, q1, q0, q2⟩ => ⟨b, o, q1, q0, fun j x hj => ?_⟩⟩
  have s : St (fun k => k = g) W (W.setCell ⟨g, q, none⟩ u) := St.setCell _ rfl
  have h4 := q2 j x hj
  have hl := World.block_lt_of_cell? W _ h4
  exact (World.cell?_of_block (a := ⟨b, o + j, none⟩) (s.block b hl (by omega))).trans h4
theorem irow_three {B : Nat} {W : World} {o : Obj} {d : List Int} (c : Nat) (hB : B ≤ W.heap.size) : IRowB B ((W.alloc o).alloc (.cells (d.map gZ).toArray 3)) (.slice (some ⟨W.heap.size + 1, 0, none⟩) d.length c) d := by
  have h := heap_alloc_new (W.alloc o) (.cells (d.map gZ).toArray 3)
  rw [World.size_alloc] at h
  exact ⟨_, _, rfl, .inr ⟨W.heap.size + 1, 0, rfl, by omega, fun j x hj => by rw [Nat.zero_add]; exact cell_blk h (by simp [hj, gZ])⟩⟩
set_option maxHeartbeats 1600000 in
theorem follows_any (W : World) (x : Ins) (i : Nat) (hi : i ≤ 1000) (hk : known x.1 = true) (hj : jmp x.1 = true → 0 ≤ x.2.1) :
    Calls Tryd.prog 42 #[iV x, .int .i64 (i : Int)] W fun e W' => ∃ r, e = .returned r ∧ IRowB W.heap.size W' r (nats (fol x i)) ∧ Below W.heap.size W W' := by
  obtain ⟨op, a, b⟩ := x
  have hii : (i : Int) ≤ 1000 := by omega
  have BA : Hid (Below W.heap.size W (W.alloc (.cells #[.int .i64 op, .int .i64 a, .int .i64 b] 59))) := bAl _ _
  have BB := hid (fun (d : List Int) => BA.out.trans ((bAl (W.alloc (.cells #[.int .i64 op, .int .i64 a, .int .i64 b] 59)) (.cells (d.map gZ).toArray 3)).mono BA.out.size))
  have IR := hid (fun (d : List Int) c => irow_three (B := W.heap.size) (W := W) (o := .cells #[.int .i64 op, .int .i64 a, .int .i64 b] 59) (d := d) c (Nat.le_refl _))
  simp only [] at hk hj
  unfold iV
  simp only []
  by_cases h20 : op = 20
  · subst h20
    obtain ⟨q, rfl⟩ : ∃ q : Nat, a = (q : Int) := ⟨a.toNat, by have := hj rfl; omega⟩
    have e : nats (fol (20, (q : Int), b) i) = [(q : Int)] := by simp [nats, fol, jmp, onw, known]
    rw [e]
    have I1 := IR.out [(q : Int)] 1
    have B1 := hid (BB.out [(q : Int)])
    have HI1 := hid I1
    clear hj hk e IR BB I1
    go_enter Tryd.func42, Tryd.ntmps42
    go_wp2_with fail
    go_ret
    exact ⟨_, rfl, HI1.out, B1.out⟩
  · by_cases h21 : op = 21
    · subst h21
      obtain ⟨q, rfl⟩ : ∃ q : Nat, a = (q : Int) := ⟨a.toNat, by have := hj rfl; omega⟩
      have e : nats (fol (21, (q : Int), b) i) = [(q : Int), (i : Int) + 1] := by simp [nats, fol, jmp, onw, known]
      rw [e]
      have HI1 := hid (IR.out [(q : Int), (i : Int) + 1] 2)
      have B1 := hid (BB.out [(q : Int), (i : Int) + 1])
      clear hj hk e IR BB h20
      go_enter Tryd.func42, Tryd.ntmps42
      go_wp2_with fail
      go_ret
      exact ⟨_, rfl, HI1.out, B1.out⟩
    · have ejm : jmp op = false := by unfold jmp; simp [h20, h21]
      by_cases h35 : op = 35
      · subst h35
        have e : nats (fol (35, a, b) i) = [] := by simp [nats, fol, jmp, onw, known]
        rw [e]
        clear hj hk e IR BB h20 h21 ejm
        go_enter Tryd.func42, Tryd.ntmps42
        go_wp2_with fail
        go_ret
        exact ⟨_, rfl, ⟨none, 0, rfl, .inl rfl⟩, BA.out⟩
      · have eon : onw op = true := by unfold onw; rw [hk]; simp [h20, h35]
        have e : nats (fol (op, a, b) i) = [(i : Int) + 1] := by simp [nats, fol, ejm, eon]
        rw [e]
        have HI1 := hid (IR.out [(i : Int) + 1] 1)
        have B1 := hid (BB.out [(i : Int) + 1])
        clear hj hk e IR BB ejm eon
        go_enter Tryd.func42, Tryd.ntmps42
        go_wp2_with fail
        go_ret
        exact ⟨_, rfl, HI1.out, B1.out⟩
/-- Numbers in a row of one's own. -/
structure Ou (w0 : World) (v : Value) (d : List Int) (wr : World) : Prop where
  own : wr.ownsRow w0.heap.size 3 1 v d.length (d.map gZ)
  bel : Below w0.heap.size w0 wr
theorem Ou.later {w0 wr w1 : World} {v : Value} {d : List Int} (h : Ou w0 v d wr) (hb : Below wr.heap.size wr w1) : Ou w0 v d w1 := ⟨Sc.own_more h.own hb, h.bel.trans (hb.mono h.bel.size)⟩
theorem Ou.cell {w0 wr : World} {g c q : Nat} {d : List Int} {n : Int} (h : Ou w0 (.slice (some ⟨g, 0, none⟩) d.length c) d wr) (hq : d[q]? = some n) : wr.cell? ⟨g, q, none⟩ = some (.int .i64 n) := by
  rw [h.own.cellAt q (by have := (List.getElem?_eq_some_iff.1 hq).1; omega)]
  simp [hq, gZ]
theorem Ou.blk {w0 wr : World} {g c : Nat} {d : List Int} (h : Ou w0 (.slice (some ⟨g, 0, none⟩) d.length c) d wr) : ∃ cur, wr.heap[g]? = some (.cells cur 3 (0, 0)) ∧ w0.heap.size ≤ g := by
  rcases h.own.2 with ⟨h1, _⟩ | ⟨g', cap', cur, h1, h2, h3, h4⟩
  · cases h1
  · simp only [Value.slice.injEq, Option.some.injEq, Addr.mk.injEq, true_and, and_true] at h1
    obtain ⟨rfl, rfl⟩ := h1
    exact ⟨cur, h3, h2⟩
theorem Ou.free {w0 wr : World} {g c : Nat} {d : List Int} (h : Ou w0 (.slice (some ⟨g, 0, none⟩) d.length c) d wr) (q : Nat) : wr.frozen? ⟨g, q, none⟩ = false := by
  obtain ⟨cur, h1, -⟩ := h.blk
  exact blk_free h1 q
theorem Ou.put {w0 wr : World} {g c q : Nat} {d : List Int} {m : Int} (h : Ou w0 (.slice (some ⟨g, 0, none⟩) d.length c) d wr) : Ou w0 (.slice (some ⟨g, 0, none⟩) (d.set q m).length c) (d.set q m) (wr.setCell ⟨g, q, none⟩ (.int .i64 m)) := by
  obtain ⟨cur, hg, hB⟩ := h.blk
  refine ⟨?_, h.bel.trans ((St.setCell (S := fun k => k = g) (a := wr) (p := ⟨g, q, none⟩) (.int .i64 m) rfl).below (fun k hk => by omega) h.bel.size)⟩
  rcases h.own.2 with ⟨h1, _⟩ | ⟨g', cap', cur, h1, h2, h3, h4, h5, h6, h7⟩
  · cases h1
  · simp only [Value.slice.injEq, Option.some.injEq, Addr.mk.injEq, true_and, and_true] at h1
    obtain ⟨rfl, rfl⟩ := h1
    refine ⟨by simp, .inr ⟨g, c, cur.setIfInBounds q (.int .i64 m), rfl, h2, heap_setCell_same wr g q cur 3 (.int .i64 m) h3, by simpa using h4, h5, by simpa using h6, ?_⟩⟩
    rw [Array.toList_setIfInBounds, List.length_set, List.take_set, h7, List.map_set]
    rfl
/-- append of one number. -/
theorem wpList_num {ops : Array Oper} {rest : List Oper} {o : Oper} {a : Act} {Q : Exit → Act → World → Prop} (hgd : o.guard = none) (s x : Operand)
    (ho : o.op = .call { callee := .builtin .append, args := #[s, x], argTypes := #[51, 51] }) {w0 wc : World} {v : Value} {d : List Int} {m : Int} (hown : Ou w0 v d wc) (hl : d.length ≤ 1000)
    (hs : a.eval s = v) (hx : a.eval x = .slice (some ⟨wc.heap.size, 0, none⟩) 1 1)
    (h : ∀ g cap w2, Hid (Ou w0 (.slice (some ⟨g, 0, none⟩) (d.length + 1) cap) (d ++ [m]) w2) → wpList Tryd.prog ops Q rest (a.put o.dst (.slice (some ⟨g, 0, none⟩) (d.length + 1) cap)) w2) :
    wpList Tryd.prog ops Q (o :: rest) a (wc.alloc (.cells #[.int .i64 m] 3)) := by
  obtain ⟨i0, hi, hz0, hz1, hz2⟩ := info_parts infoIntW
  have hb : Below wc.heap.size wc (wc.alloc (.cells #[.int .i64 m] 3)) := bAl _ _
  have ho2 : (wc.alloc (.cells #[.int .i64 m] 3)).ownsRow w0.heap.size 3 1 v d.length (d.map gZ) := hown.own.alloc _
  have hB := hown.bel.size
  refine wpList_append_lies _ hgd s x 51 ho w0.heap.size 3 i0 (.int .i64 0) 1 8 Tryd.underlying51 hi hz0 hz1 hz2 rfl (by decide) v d.length (d.map gZ) hs ho2 ⟨wc.heap.size, 0, none⟩ 1 1 [gZ m] hx rfl (fun j u hu => by
    rw [add_at]
    match j, hu with
    | 0, hu =>
      simp at hu
      subst hu
      exact new_cellW wc _ 3
    | j + 1, hu => simp at hu) (by intro u hu; simp at hu; subst hu; rfl) (by decide) (by unfold maxLen; omega) (by omega) (by simp; omega) (wc.heap.size + 1) (by simp) ?_
  intro g' cap w2 ow hg hat hlt
  have st : St (fun x => v.ownBlock = some x) wc w2 := (St.of_below hb).trans (St.of_grown (S := fun x => v.ownBlock = some x) hg fun k e => e) fun _ _ q => q
  refine h g' cap w2 ⟨?_, hown.bel.trans (st.below (fun k hk => (World.ownsRow.lt hown.own k hk).1) hB)⟩
  rw [List.map_append, List.length_append]
  exact ow
end Go.Proofs.YtkhhiddemihnbaaDoor.Cw
