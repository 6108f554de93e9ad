/- Badges in memory. -/
import Derived.Test.YtiebbedpjogjfaaDoorBdBa
namespace Go.Proofs.YtiebbedpjogjfaaDoor.Bd
open Go.RowKit Go.Shelf Go.Maps
/-- Outside S all lies as it lay. -/
structure St (S : Nat → Prop) (W W' : World) : Prop where
  os : W'.os = W.os
  tape : W'.tape = W.tape
  output : W'.output = W.output
  size : W.heap.size ≤ W'.heap.size
  block : ∀ k, k < W.heap.size → ¬ S k → W'.heap[k]? = W.heap[k]?
theorem St.refl (S : Nat → Prop) (W : World) : St S W W := ⟨rfl, rfl, rfl, Nat.le_refl _, fun _ _ _ => rfl⟩
theorem St.trans {S T : Nat → Prop} {a b c : World} (h : St S a b) (k : St T b c) (hs : ∀ x, x < a.heap.size → T x → S x) : St S a c :=
  ⟨k.os.trans h.os, k.tape.trans h.tape, k.output.trans h.output, Nat.le_trans h.size k.size, fun x hx hn => (k.block x (Nat.lt_of_lt_of_le hx h.size) (fun q => hn (hs x hx q))).trans (h.block x hx hn)⟩
theorem St.of_below {S : Nat → Prop} {a b : World} (h : Below a.heap.size a b) : St S a b := ⟨h.os, h.tape, h.output, h.size, fun k hk _ => h.block k hk⟩
theorem St.of_grown {S : Nat → Prop} {a b : World} {row : Option Nat} (h : a.grownBy b row) (hS : ∀ k, row = some k → S k) : St S a b :=
  ⟨h.os, h.tape, h.output, h.size, fun k hk hn => h.block k hk (fun e => hn (hS k e.symm))⟩
theorem St.below {S : Nat → Prop} {a b : World} {B : Nat} (h : St S a b) (hS : ∀ k, S k → B ≤ k) (hB : B ≤ a.heap.size) : Below B a b :=
  ⟨h.os, h.tape, h.output, h.size, fun k hk => h.block k (by omega) (fun q => by have := hS k q; omega)⟩
theorem St.setCell {S : Nat → Prop} {a : World} {p : Addr} (v : Value) (hp : S p.block) : St S a (a.setCell p v) :=
  ⟨rfl, rfl, rfl, by simp, fun k _ hn => Below.heap_setCell _ _ _ _ (fun e => hn (e ▸ hp))⟩
theorem St.at {S : Nat → Prop} {W W' : World} {b : Nat} {o : Obj} (hs : St S W W') (h : W.heap[b]? = some o) (hn : ¬ S b) : W'.heap[b]? = some o := (hs.block b (Array.getElem?_eq_some_iff.1 h).1 hn).trans h
theorem bAl (W : World) (o : Obj) : Below W.heap.size W (W.alloc o) := (Below.refl _ _).alloc (Nat.le_refl _) _
theorem cell_blk {W : World} {b j : Nat} {cs : Array Value} {e : TypeId} {u : Value} (h : W.heap[b]? = some (.cells cs e (0, 0))) (hj : cs[j]? = some u) : W.cell? ⟨b, j, none⟩ = some u := by
  rw [cell_of_row _ _ j _ e (0, 0) h]; exact hj
theorem blk_free {W : World} {b : Nat} {cs : Array Value} {e : TypeId} (h : W.heap[b]? = some (.cells cs e (0, 0))) (j : Nat) : W.frozen? ⟨b, j, none⟩ = false := by
  unfold World.frozen?
  rw [show (⟨b, j, none⟩ : Addr).block = b from rfl, h]
  simp
theorem blk_seen {W W' : World} {B b : Nat} {o : Obj} (hb : Below B W W') (hB : W.heap.size ≤ B) (h : W.heap[b]? = some o) : W'.heap[b]? = some o := (hb.block b (Nat.lt_of_lt_of_le (Array.getElem?_eq_some_iff.1 h).1 hB)).trans h
theorem seen {B : Nat} {W W' : World} (hb : Below B W W') (hB : W.heap.size ≤ B) {p : Addr} {u : Value} (h : W.cell? p = some u) : W'.cell? p = some u := (hb.cell (p := p) (Nat.lt_of_lt_of_le (World.block_lt_of_cell? W p h) hB)).trans h
def entO : Option (Int × Int) → Int × Int
  | none => (0, 0)
  | some e => e
def entD (e : Int × Int) : DataW Unit := .agg [.lit (.int .i64 e.1), .lit (.int .i64 e.2)]
theorem entD_inj {x y : Int × Int} (h : entD x = entD y) : x = y := by
  unfold entD at h
  simp at h
  exact Prod.ext h.1 h.2
/-- How an entity reads. -/
def entElem : Value → Option (DataW Unit × List MemPlace)
  | .agg a => match a.toList with
    | [.int .i64 i, .int .i64 g] => some (entD (i, g), [])
    | _ => none
  | _ => none
theorem entElem_mk (i g : Int) : entElem (entV i g) = some (entD (i, g), []) := rfl
theorem entElem_inv {v : Value} {y : DataW Unit × List MemPlace} (h : entElem v = some y) : ∃ i g, v = entV i g ∧ y = (entD (i, g), []) := by
  unfold entElem at h
  split at h
  · rename_i a
    split at h
    · rename_i i g he
      cases h
      refine ⟨i, g, ?_, rfl⟩
      unfold entV
      obtain ⟨l⟩ := a
      simp at he
      rw [he]
    · cases h
  · cases h
/-- What the map of owners says. -/
def H1 (D : DataW Unit) (l : Prs) : Prop := (∀ id, I64 id → Maps.has D (.int .i64 id) = (who l id).isSome ∧ D.atKey (.int .i64 id) (entD (0, 0)) = entD (entO (who l id))) ∧ Maps.size D = l.length
/-- What the map of numbers says. -/
def H2 (D : DataW Unit) (l : Prs) : Prop := (∀ i g, I64 i → I64 g → Maps.has D (kl i g) = (num l (i, g)).isSome ∧ D.atKey (kl i g) (.lit (.int .i64 0)) = .lit (.int .i64 ((num l (i, g)).getD 0))) ∧ Maps.size D = l.length
/-- The map of owners, in memory. -/
def M1 (W : World) (mb : Nat) (l : Prs) : Prop := ∃ D, W.ownsMap Tryd.prog 3 entElem mb (Maps.size D) D ∧ H1 D l
def M2 (W : World) (mb : Nat) (l : Prs) : Prop := ∃ D, W.ownsMap Tryd.prog 29 (plainElem Tryd.prog 3) mb (Maps.size D) D ∧ H2 D l
theorem own_size {k : TypeId} {R : Value → Option (DataW Unit × List MemPlace)} {W : World} {mb n : Nat} {D : DataW Unit} (h : W.ownsMap Tryd.prog k R mb n D) : W.ownsMap Tryd.prog k R mb (Maps.size D) D := by
  obtain ⟨es, clock, hb, F, _, rfl⟩ := h
  exact ⟨es, clock, hb, F, by simp [Maps.size, length_sorted], rfl⟩
theorem turned_st {W W' : World} {mb : Nat} (h : W.mapTurned W' mb) : St (fun k => k = mb) W W' := St.of_grown h.grown fun k e => by simpa using e.symm
section
variable {W W' : World} {mb : Nat} {l : Prs} {n : Int} {t e : TypeId}
theorem M1.lt (h : M1 W mb l) : mb < W.heap.size := by obtain ⟨D, h1, -⟩ := h; exact h1.lt
theorem M2.lt (h : M2 W mb l) : mb < W.heap.size := by obtain ⟨D, h1, -⟩ := h; exact h1.lt
theorem M1.kept {T : Nat → Prop} (h : M1 W mb l) (hs : St T W W') (hn : ¬ T mb) : M1 W' mb l := by
  obtain ⟨D, ⟨es, cl, hb, q⟩, h2⟩ := h
  exact ⟨D, ⟨es, cl, hs.at hb hn, q⟩, h2⟩
theorem M2.kept {T : Nat → Prop} (h : M2 W mb l) (hs : St T W W') (hn : ¬ T mb) : M2 W' mb l := by
  obtain ⟨D, ⟨es, cl, hb, q⟩, h2⟩ := h
  exact ⟨D, ⟨es, cl, hs.at hb hn, q⟩, h2⟩
theorem M1.obj (h : M1 W mb l) : ∃ es cl, W.heap[mb]? = some (.map es cl) := by
  obtain ⟨D, ⟨es, cl, hb, q⟩, h2⟩ := h
  exact ⟨es, cl, hb⟩
theorem M2.obj (h : M2 W mb l) : ∃ es cl, W.heap[mb]? = some (.map es cl) := by
  obtain ⟨D, ⟨es, cl, hb, q⟩, h2⟩ := h
  exact ⟨es, cl, hb⟩
theorem m1_made (W : World) : M1 (W.alloc (.map #[] 0)) W.heap.size [] :=
  ⟨.map [], World.ownsMap_made W Tryd.prog 3 entElem, fun _ _ => ⟨rfl, rfl⟩, rfl⟩
theorem m2_made (W : World) : M2 (W.alloc (.map #[] 0)) W.heap.size [] :=
  ⟨.map [], World.ownsMap_made W Tryd.prog 29 (plainElem Tryd.prog 3), fun _ _ _ _ => ⟨rfl, rfl⟩, rfl⟩
theorem M1.look (h : M1 W mb l) (ht : Tryd.prog.underlying t = some (.map 3 29)) (id : Int) (hi : I64 id) :
    (Instr.lookup t (.map (some mb)) (.int .i64 id) true).run Tryd.prog W = .ok (.tuple #[.agg #[.int .i64 (entO (who l id)).1, .int .i64 (entO (who l id)).2], .bool (who l id).isSome]) W := by
  obtain ⟨D, h1, hH⟩ := h
  obtain ⟨v, ps, hr, hv⟩ := h1.look_ok keyed3 ht (zeroE W) (entElem_mk 0 0) (key_int id hi)
  obtain ⟨i, g, rfl, e2⟩ := entElem_inv hv
  rw [(hH.1 id hi).2] at e2
  simp only [Prod.mk.injEq] at e2
  have e3 := entD_inj e2.1
  rw [hr, (hH.1 id hi).1, e3]
  rfl
theorem M2.look (h : M2 W mb l) (ht : Tryd.prog.underlying t = some (.map 29 3)) (i g : Int) (hi : I64 i) (hg : I64 g) :
    (Instr.lookup t (.map (some mb)) (.agg #[.int .i64 i, .int .i64 g]) true).run Tryd.prog W = .ok (.tuple #[.int .i64 ((num l (i, g)).getD 0), .bool (num l (i, g)).isSome]) W := by
  obtain ⟨D, h1, hH⟩ := h
  obtain ⟨v, ps, hr, hv⟩ := h1.look_ok keyed24 ht (zero3 W) (plainElem_int Tryd.underlying3 (show (Lit.int .i64 0).wf = true by decide)) (key_ent i g hi hg)
  obtain ⟨a, rfl, e2, -⟩ := plainElem_int_inv Tryd.underlying3 hv
  rw [(hH.1 i g hi hg).2] at e2
  simp only [Prod.mk.injEq, DataW.lit.injEq, Lit.int.injEq, true_and] at e2
  unfold entV at hr
  rw [hr, (hH.1 i g hi hg).1, e2.1]
theorem M1.len (h : M1 W mb l) (ht : Tryd.prog.underlying t = some (.map 3 e)) (ty : TypeId) : (Builtin.len_ #[t] ty #[.map (some mb)]).run Tryd.prog W = .ok (.int .i64 (l.length : Int)) W := by
  obtain ⟨D, h1, hH⟩ := h
  rw [← hH.2]
  exact h1.len ht ty
theorem M1.store {m : Int} {id i g : Int} (h : M1 W mb l) (hok : okP n l) (hok2 : okP m (ins (id, i, g) l)) (hw : who l id = none) (ht : Tryd.prog.underlying t = some (.map 3 e)) (hid : I64 id) :
    ∃ w', (Instr.mapUpdate t (.map (some mb)) (.int .i64 id) (.agg #[.int .i64 i, .int .i64 g])).run Tryd.prog W = .ok () w' ∧ M1 w' mb (ins (id, i, g) l) ∧ St (fun k => k = mb) W w' := by
  obtain ⟨D, h1, hH⟩ := h
  have hs := hok.few
  obtain ⟨w', hr, h2, h3⟩ := h1.store keyed3 ht (by unfold maxLen; rw [hH.2]; omega) (key_int id hid) (entElem_mk i g)
  have hD := h1.tidy keyed3
  refine ⟨w', hr, ⟨_, own_size h2, fun id' hi' => ?_, ?_⟩, turned_st h3⟩
  · rw [hok.who_add hok2 hw]
    by_cases q : id' = id
    · subst q
      rw [if_pos rfl]
      exact ⟨Maps.has_put_same hD.isMap (isKeyI _) _, Maps.atKey_put_same hD.isMap (isKeyI _) _ _⟩
    · rw [if_neg q, Maps.has_put_other (key_ne q), Maps.atKey_put_other (key_ne q)]
      exact hH.1 id' hi'
  · rw [Maps.size_put hD, (hH.1 id hid).1, hw, ins_len, hH.2]
    simp
theorem M2.store {m : Int} {id i g : Int} (h : M2 W mb l) (hok : okP n l) (hok2 : okP m (ins (id, i, g) l)) (hw : num l (i, g) = none) (ht : Tryd.prog.underlying t = some (.map 29 e)) (hid : I64 id) (hi : I64 i) (hg : I64 g) :
    ∃ w', (Instr.mapUpdate t (.map (some mb)) (.agg #[.int .i64 i, .int .i64 g]) (.int .i64 id)).run Tryd.prog W = .ok () w' ∧ M2 w' mb (ins (id, i, g) l) ∧ St (fun k => k = mb) W w' := by
  obtain ⟨D, h1, hH⟩ := h
  have hs := hok.few
  obtain ⟨w', hr, h2, h3⟩ := h1.store keyed24 ht (by unfold maxLen; rw [hH.2]; omega) (key_ent i g hi hg) (plainElem_int Tryd.underlying3 hid)
  have hD := h1.tidy keyed24
  refine ⟨w', hr, ⟨_, own_size h2, fun i' g' hi' hg' => ?_, ?_⟩, turned_st h3⟩
  · rw [hok.num_add hok2 hw]
    by_cases q : ((i', g') : Int × Int) = (i, g)
    · rw [if_pos q]
      simp only [Prod.mk.injEq] at q
      obtain ⟨rfl, rfl⟩ := q
      exact ⟨Maps.has_put_same hD.isMap (kl_key _ _) _, Maps.atKey_put_same hD.isMap (kl_key _ _) _ _⟩
    · have q' : kl i' g' ≠ kl i g := fun e => q (by obtain ⟨rfl, rfl⟩ := kl_inj hi' hg' hi hg e; rfl)
      rw [if_neg q, Maps.has_put_other q', Maps.atKey_put_other q']
      exact hH.1 i' g' hi' hg'
  · rw [Maps.size_put hD, (hH.1 i g hi hg).1, hw, ins_len, hH.2]
    simp
theorem M1.drop {id : Int} {x : Int × Int} (h : M1 W mb l) (hok : okP n l) (hw : who l id = some x) (ht : Tryd.prog.underlying t = some (.map 3 e)) (hid : I64 id) (ty : TypeId) :
    ∃ w', (Builtin.delete_ #[t, 3] ty #[.map (some mb), .int .i64 id]).run Tryd.prog W = .ok (.tuple #[]) w' ∧ M1 w' mb (del id l) ∧ St (fun k => k = mb) W w' := by
  obtain ⟨D, h1, hH⟩ := h
  obtain ⟨w', hr, h2, h3⟩ := h1.drop keyed3 ht (key_int id hid) ty
  have hD := h1.tidy keyed3
  refine ⟨w', hr, ⟨_, own_size h2, fun id' hi' => ?_, ?_⟩, turned_st h3⟩
  · rw [hok.who_del]
    by_cases q : id' = id
    · subst q
      rw [if_pos rfl]
      exact ⟨Maps.has_del_same, Maps.atKey_del_same _⟩
    · rw [if_neg q, Maps.has_del_other (key_ne q), Maps.atKey_del_other (key_ne q)]
      exact hH.1 id' hi'
  · have e1 := Maps.size_del (k := .int .i64 id) hD
    rw [(hH.1 id hid).1, hw, hH.2] at e1
    have e2 := del_len hok hw
    simp at e1
    omega
theorem M2.drop {id i g : Int} (h : M2 W mb l) (hok : okP n l) (hw : who l id = some (i, g)) (ht : Tryd.prog.underlying t = some (.map 29 e)) (hi : I64 i) (hg : I64 g) (ty : TypeId) :
    ∃ w', (Builtin.delete_ #[t, 29] ty #[.map (some mb), .agg #[.int .i64 i, .int .i64 g]]).run Tryd.prog W = .ok (.tuple #[]) w' ∧ M2 w' mb (del id l) ∧ St (fun k => k = mb) W w' := by
  obtain ⟨D, h1, hH⟩ := h
  obtain ⟨w', hr, h2, h3⟩ := h1.drop keyed24 ht (key_ent i g hi hg) ty
  have hD := h1.tidy keyed24
  refine ⟨w', hr, ⟨_, own_size h2, fun i' g' hi' hg' => ?_, ?_⟩, turned_st h3⟩
  · rw [hok.num_del hw]
    by_cases q : ((i', g') : Int × Int) = (i, g)
    · rw [if_pos q]
      simp only [Prod.mk.injEq] at q
      obtain ⟨rfl, rfl⟩ := q
      exact ⟨Maps.has_del_same, Maps.atKey_del_same _⟩
    · have q' : kl i' g' ≠ kl i g := fun e => q (by obtain ⟨rfl, rfl⟩ := kl_inj hi' hg' hi hg e; rfl)
      rw [if_neg q, Maps.has_del_other q', Maps.atKey_del_other q']
      exact hH.1 i' g' hi' hg'
  · have e1 := Maps.size_del (k := kl i g) hD
    rw [(hH.1 i g hi hg).1, (hok.num id (i, g)).2 ((hok.who id (i, g)).1 hw), hH.2] at e1
    have e2 := del_len hok hw
    simp at e1
    omega
end
/-- Badges in memory. -/
structure Bg (B : Nat) (W : World) (bb ob nb : Nat) (n : Int) (l : Prs) : Prop where
  box : W.heap[bb]? = some (.cells #[.map (some ob), .map (some nb), .int .i64 n] 63 (0, 0))
  m1 : M1 W ob l
  m2 : M2 W nb l
  ok : okP n l
  low : B ≤ bb ∧ B ≤ ob ∧ B ≤ nb
  ne : ob ≠ nb
def Ft (bb ob nb k : Nat) : Prop := k = bb ∨ k = ob ∨ k = nb
section
variable {B : Nat} {W W' : World} {bb ob nb : Nat} {n : Int} {l : Prs}
theorem Bg.ne1 (h : Bg B W bb ob nb n l) : bb ≠ ob := fun q => by
  obtain ⟨es, cl, hb⟩ := h.m1.obj
  have := h.box
  rw [q, hb] at this
  cases this
theorem Bg.ne2 (h : Bg B W bb ob nb n l) : bb ≠ nb := fun q => by
  obtain ⟨es, cl, hb⟩ := h.m2.obj
  have := h.box
  rw [q, hb] at this
  cases this
theorem Bg.kept {T : Nat → Prop} (h : Bg B W bb ob nb n l) (hs : St T W W') (hn : ∀ k, Ft bb ob nb k → ¬ T k) : Bg B W' bb ob nb n l :=
  ⟨hs.at h.box (hn _ (.inl rfl)), h.m1.kept hs (hn _ (.inr (.inl rfl))), h.m2.kept hs (hn _ (.inr (.inr rfl))), h.ok, h.low, h.ne⟩
theorem Bg.later (h : Bg B W bb ob nb n l) (hb : Below W.heap.size W W') : Bg B W' bb ob nb n l := h.kept (T := fun _ => False) (St.of_below hb) fun _ _ q => q
theorem Bg.lt (h : Bg B W bb ob nb n l) (k : Nat) (hk : Ft bb ob nb k) : B ≤ k ∧ k < W.heap.size := by
  rcases hk with rfl | rfl | rfl
  · exact ⟨h.low.1, (Array.getElem?_eq_some_iff.1 h.box).1⟩
  · exact ⟨h.low.2.1, h.m1.lt⟩
  · exact ⟨h.low.2.2, h.m2.lt⟩
theorem Bg.c0 (h : Bg B W bb ob nb n l) : W.cell? ⟨bb, 0, none⟩ = some (.map (some ob)) := cell_blk h.box rfl
theorem Bg.c1 (h : Bg B W bb ob nb n l) : W.cell? ⟨bb, 1, none⟩ = some (.map (some nb)) := cell_blk h.box rfl
theorem Bg.c2 (h : Bg B W bb ob nb n l) : W.cell? ⟨bb, 2, none⟩ = some (.int .i64 n) := cell_blk h.box rfl
theorem Bg.lower {B' : Nat} (h : Bg B W bb ob nb n l) (hB : B' ≤ B) : Bg B' W bb ob nb n l := ⟨h.box, h.m1, h.m2, h.ok, by have := h.low; omega, h.ne⟩
end
end Go.Proofs.YtiebbedpjogjfaaDoor.Bd
