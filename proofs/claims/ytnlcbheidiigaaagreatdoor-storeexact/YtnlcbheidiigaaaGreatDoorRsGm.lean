/- A part of StoreExact. -/
import Derived.Test.YtnlcbheidiigaaaGreatDoorRsGk
namespace Go.Proofs.YtnlcbheidiigaaaGreatDoor
namespace Rs
open Go.RowKit Go.Shelf Go.Maps
open At (blk_seen)
def SD.put (s : SD) (i g : Int) (p : Prt) : Prt × Int × SD :=
 if s.r.aliveB i g && !fitP s.ws p then (Prt.zero, 1, s) else
 if (s.get i g p.c).2 = 0 then ((s.get i g p.c).1, 0, s.rowed i.toNat (insP (remP (s.at i.toNat) p.c) p)) else ((s.get i g p.c).1, (s.get i g p.c).2, s)
structure Fb (B : Nat) (W : World) (ub : Nat) (x : SV) (s : SD) (T : Nat) (fr : List (Nat × Obj)) (w : World) : Prop where
 gs : ∃ x', Gs B W ub x w x' s ∧ ∀ b, x'.fp ub b → b < W.heap.size ∨ T ≤ b
 fr' : ∀ y ∈ fr, w.heap[y.1]? = some y.2 ∧ W.heap.size ≤ y.1 ∧ y.1 < T
 top : T ≤ w.heap.size
section
variable {B : Nat} {W w w' : World} {ub : Nat} {x : SV} {s : SD} {T : Nat} {fr : List (Nat × Obj)}
theorem Fb.later (h : Fb B W ub x s T fr w) (hb : Below w.heap.size w w') : Fb B W ub x s T fr w' := by
 obtain ⟨x', h1, h2⟩ := h.gs
 exact ⟨⟨x', h1.then (Gs.stay h1.sb hb), h2⟩, fun y hy => ⟨blk_seen hb (Nat.le_refl _) (h.fr' y hy).1, (h.fr' y hy).2⟩, Nat.le_trans h.top hb.size⟩
theorem Fb.at (h : Fb B W ub x s T fr w) {k : Nat} {o : Obj} (hk : (k, o) ∈ fr) : w.heap[k]? = some o := (h.fr' _ hk).1
theorem Fb.turn {x1 x2 : SV} {s2 : SD} (h : Fb B W ub x s T fr w) (h1 : Gs B W ub x w x1 s) (hf : ∀ b, x1.fp ub b → b < W.heap.size ∨ T ≤ b) (h2 : Gs B w ub x1 w' x2 s2) : Fb B W ub x s2 T fr w' := by
 refine ⟨⟨x2, h1.then h2, fun b hb => ?_⟩, fun y hy => ?_, Nat.le_trans h.top h2.st.size⟩
 ·rcases h2.new b hb with q | q
  ·exact hf b q
  ·exact .inr (Nat.le_trans h.top q)
 ·obtain ⟨q1, q2, q3⟩ := h.fr' y hy
  exact ⟨h2.st.at q1 (fun e => by rcases hf _ e with q | q <;> omega), q2, q3⟩
theorem Fb.more (h : Fb B W ub x s T fr w) (hx : ∃ x', Gs B W ub x w x' s ∧ ∀ b, x'.fp ub b → b < W.heap.size) (hb : Below w.heap.size w w') {k : Nat} {o : Obj} (hk : w'.heap[k]? = some o) (hn : w.heap.size ≤ k) : Fb B W ub x s w'.heap.size ((k, o) :: fr) w' := by
 obtain ⟨x', h1, h2⟩ := hx
 refine ⟨⟨x', h1.then (Gs.stay h1.sb hb), fun b q => .inl (h2 b q)⟩, fun y hy => ?_, Nat.le_refl _⟩
 rcases List.mem_cons.1 hy with rfl | hy
 ·exact ⟨hk, Nat.le_trans h1.st.size hn, (Array.getElem?_eq_some_iff.1 hk).1⟩
 ·obtain ⟨q1, q2, q3⟩ := h.fr' y hy
  exact ⟨blk_seen hb (Nat.le_refl _) q1, q2, Nat.lt_of_lt_of_le q3 (Nat.le_trans h.top hb.size)⟩
theorem Fb.fin (h : Fb B W ub x s T fr w) (hB : B ≤ W.heap.size) {b : Nat} {o : Obj} (hk : (b, o) ∈ fr) (p : Prt) : ∃ x', Gs B W ub x (six w b p) x' s := by
 obtain ⟨x', h1, h2⟩ := h.gs
 obtain ⟨-, q2, q3⟩ := h.fr' _ hk
 exact ⟨x', h1.beside (six_st w _ p) q2 (fun e => by rcases h2 _ e with q | q <;> simp at * <;> omega) hB⟩
end
theorem three_blk (W : World) (a b c : Array Value) (e f t : TypeId) : ∃ W3, W3 = ((W.alloc (.cells a e)).alloc (.cells b f)).alloc (.cells c t) ∧ Below W.heap.size W W3 ∧ W3.heap[W.heap.size]? = some (.cells a e (0, 0)) ∧ W3.heap[W.heap.size + 1]? = some (.cells b f (0, 0)) ∧ W3.heap[W.heap.size + 2]? = some (.cells c t (0, 0)) ∧ W3.heap.size = W.heap.size + 3 := by
 obtain ⟨b2, k1, k2⟩ := two_blk W a b e f
 refine ⟨_, rfl, b2.alloc (by simp; omega) _, (Below.heap_alloc _ _ _ (by simp; omega)).trans k1, (Below.heap_alloc _ _ _ (by simp)).trans k2, ?_, by simp⟩
 have := heap_alloc_new ((W.alloc (.cells a e)).alloc (.cells b f)) (.cells c t)
 rw [World.size_alloc, World.size_alloc] at this
 exact this
end Rs
end Go.Proofs.YtnlcbheidiigaaaGreatDoor
