/- Goods, and blocks beside them; the acts of the laws. -/
import Derived.Test.YtbfjijiakkopeaaDoorGsGh
namespace Go.Proofs.YtbfjijiakkopeaaDoor.Gs
open Go.RowKit Go.Shelf Go.Maps
/-- Goods, and blocks beside them. -/
structure Gw (W1 : World) (gb mb : Nat) (v : Value) (ns : List ByteArray) (l : List Int) (n : Nat) (fr : List (Nat × Obj)) (w : World) : Prop where
  gd : Gd W1.heap.size w gb mb v ns l n
  bel : Below W1.heap.size W1 w
  fr' : ∀ x ∈ fr, w.heap[x.1]? = some x.2 ∧ ¬ Fz gb mb v x.1
section
variable {W1 w w' : World} {gb mb : Nat} {v : Value} {ns : List ByteArray} {l : List Int} {n : Nat} {fr : List (Nat × Obj)} {Ad : Nat → Addr}
theorem Gw.later (h : Gw W1 gb mb v ns l n fr w) (hb : Below w.heap.size w w') : Gw W1 gb mb v ns l n fr w' :=
  ⟨h.gd.later hb, h.bel.trans (hb.mono h.bel.size), fun x hx => ⟨blk_seen hb (Nat.le_refl _) (h.fr' x hx).1, (h.fr' x hx).2⟩⟩
theorem Gw.alloc (h : Gw W1 gb mb v ns l n fr w) (cs : Array Value) (ty : TypeId) : Gw W1 gb mb v ns l n ((w.heap.size, .cells cs ty (0, 0)) :: fr) (w.alloc (.cells cs ty)) := by
  have h' := h.later (bAl w (.cells cs ty))
  refine ⟨h'.gd, h'.bel, fun x hx => ?_⟩
  rcases List.mem_cons.1 hx with rfl | hx
  · exact ⟨heap_alloc_new w _, fun q => by have := (h.gd.lt _ q).2; omega⟩
  · exact h'.fr' x hx
theorem Gw.at (h : Gw W1 gb mb v ns l n fr w) {k : Nat} {o : Obj} (hk : (k, o) ∈ fr) : w.heap[k]? = some o := (h.fr' _ hk).1
theorem Gw.few (h : Gw W1 gb mb v ns l n fr w) {fr' : List (Nat × Obj)} (hf : ∀ x ∈ fr', x ∈ fr) : Gw W1 gb mb v ns l n fr' w := ⟨h.gd, h.bel, fun x hx => h.fr' x (hf x hx)⟩
theorem Gw.env (h : Gw W1 gb mb v ns l n fr w) (hE : Env8 W1 Ad) : Env8 w Ad := hE.later h.bel
theorem Gw.step {n' : Nat} {l' : List Int} (h : Gw W1 gb mb v ns l n fr w) (hg : Gd W1.heap.size w' gb mb v ns l' n') (hs : St (Ft gb v) w w') : Gw W1 gb mb v ns l' n' fr w' :=
  ⟨hg, h.bel.trans (hs.below (B := W1.heap.size) (fun k hk => (h.gd.lt k hk.all).1) h.bel.size), fun x hx => ⟨hs.at (h.fr' x hx).1 (fun q => (h.fr' x hx).2 q.all), (h.fr' x hx).2⟩⟩
/-- A new block, whose place is known. -/
theorem Gw.more (h : Gw W1 gb mb v ns l n fr w) (hb : Below w.heap.size w w') {k : Nat} {o : Obj} (hk : w'.heap[k]? = some o) (hn : w.heap.size ≤ k) : Gw W1 gb mb v ns l n ((k, o) :: fr) w' := by
  have h' := h.later hb
  refine ⟨h'.gd, h'.bel, fun x hx => ?_⟩
  rcases List.mem_cons.1 hx with rfl | hx
  · exact ⟨hk, fun q => by have := (h.gd.lt _ q).2; simp at this; omega⟩
  · exact h'.fr' x hx
/-- A cell of the first block beside them is written. -/
theorem Gw.put {k j : Nat} {cs : Array Value} {ty : TypeId} (h : Gw W1 gb mb v ns l n ((k, .cells cs ty (0, 0)) :: fr) w) (hk : W1.heap.size ≤ k) (hf : ∀ x ∈ fr, x.1 ≠ k) (u : Value) : Gw W1 gb mb v ns l n ((k, .cells (cs.setIfInBounds j u) ty (0, 0)) :: fr) (w.setCell ⟨k, j, none⟩ u) := by
  have s : St (fun q => q = k) w (w.setCell ⟨k, j, none⟩ u) := St.setCell _ rfl
  obtain ⟨hk1, hk2⟩ := h.fr' _ (List.mem_cons_self ..)
  refine ⟨h.gd.kept s fun q hq e => hk2 (e ▸ hq), h.bel.trans (s.below (B := W1.heap.size) (fun q e => by omega) h.bel.size), fun x hx => ?_⟩
  rcases List.mem_cons.1 hx with rfl | hx
  · exact ⟨heap_setCell_same _ k j _ _ u hk1, hk2⟩
  · have := h.fr' x (List.mem_cons_of_mem _ hx)
    exact ⟨s.at this.1 (hf x hx), this.2⟩
end
/-- An act of a law. -/
structure ActI where
  kd : Int
  i : Int
  n : Int
  lv : Value
  l : List Int
/-- A row of numbers that comes in. -/
def LRow (W : World) (v : Value) (xs : List Int) : Prop := ∃ a c, v = .slice a xs.length c ∧ (xs = [] ∨ ∃ b o, a = some ⟨b, o, none⟩ ∧ ∀ (j : Nat) x, xs[j]? = some x → W.cell? ⟨b, o + j, none⟩ = some (.int .i64 x))
theorem LRow.later {W W' : World} {v : Value} {xs : List Int} (h : LRow W v xs) (hb : Below W.heap.size W W') : LRow W' v xs := by
  obtain ⟨a, c, h1, h2⟩ := h
  refine ⟨a, c, h1, h2.imp id ?_⟩
  rintro ⟨b, o, h3, h4⟩
  exact ⟨b, o, h3, fun j x hx => seen hb (Nat.le_refl _) (h4 j x hx)⟩
/-- The acts in memory. -/
def ActRow (W : World) (v : Value) (xs : List ActI) : Prop := ∃ a c, v = .slice a xs.length c ∧ (∀ x ∈ xs, LRow W x.lv x.l) ∧ (xs = [] ∨ ∃ b o, a = some ⟨b, o, none⟩ ∧ ∀ (j : Nat) (x : ActI), xs[j]? = some x →
  W.cell? ⟨b, o + j * 4, none⟩ = some (.int .i64 x.kd) ∧ W.cell? ⟨b, o + j * 4 + 1, none⟩ = some (.int .i64 x.i) ∧ W.cell? ⟨b, o + j * 4 + 2, none⟩ = some (.int .i64 x.n) ∧ W.cell? ⟨b, o + j * 4 + 3, none⟩ = some x.lv)
theorem ActRow.later {W W' : World} {v : Value} {xs : List ActI} (h : ActRow W v xs) (hb : Below W.heap.size W W') : ActRow W' v xs := by
  obtain ⟨a, c, h1, h0, h2⟩ := h
  refine ⟨a, c, h1, fun x hx => (h0 x hx).later hb, h2.imp id ?_⟩
  rintro ⟨b, o, h3, h4⟩
  exact ⟨b, o, h3, fun j x hx => by
    obtain ⟨q0, q1, q2, q3⟩ := h4 j x hx
    exact ⟨seen hb (Nat.le_refl _) q0, seen hb (Nat.le_refl _) q1, seen hb (Nat.le_refl _) q2, seen hb (Nat.le_refl _) q3⟩⟩
/-- A place out of a raw number. -/
def uq (x : Int) : Nat := (x % 8).toNat
theorem uq_lt (x : Int) : uq x < 8 := by unfold uq; omega
theorem uq_eq (x : Int) : ((uq x : Nat) : Int) = IntKind.u64.wrap x % 8 := by
  unfold uq IntKind.wrap
  simp [IntKind.signed, IntKind.bits]
  omega
theorem uq_w (x : Int) : wrap64 ((IntKind.u64.wrap x).tmod 8) = ((uq x : Nat) : Int) := by
  have h := uq_eq x
  have h0 : 0 ≤ IntKind.u64.wrap x := by unfold IntKind.wrap; simp [IntKind.signed, IntKind.bits]; omega
  rw [Int.tmod_eq_emod_of_nonneg h0, ← h]
  have := uq_lt x
  unfold wrap64
  omega
end Go.Proofs.YtbfjijiakkopeaaDoor.Gs
