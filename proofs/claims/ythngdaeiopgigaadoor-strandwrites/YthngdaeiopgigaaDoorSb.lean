/- Worlds: what a step on one object of the call's own keeps of all others. No program is named here. -/
import Derived.WalkKit
import Derived.OneCell
import Derived.Deep.Draws
namespace Go.Proofs.YthngdaeiopgigaaDoor
open Go.RowKit

/-- All blocks but those of X are as they were. -/
structure Kp (X : Nat → Prop) (w w' : World) : Prop where
  os : w'.os = w.os
  tape : w'.tape = w.tape
  output : w'.output = w.output
  size : w.heap.size ≤ w'.heap.size
  block : ∀ k, k < w.heap.size → ¬ X k → w'.heap[k]? = w.heap[k]?

theorem Kp.refl (X : Nat → Prop) (w : World) : Kp X w w := ⟨rfl, rfl, rfl, Nat.le_refl _, fun _ _ _ => rfl⟩
theorem Kp.trans {X : Nat → Prop} {a b c : World} (h : Kp X a b) (k : Kp X b c) : Kp X a c :=
  ⟨k.os.trans h.os, k.tape.trans h.tape, k.output.trans h.output, Nat.le_trans h.size k.size, fun i hi hx => (k.block i (Nat.lt_of_lt_of_le hi h.size) hx).trans (h.block i hi hx)⟩
theorem Kp.mono {X Y : Nat → Prop} {a b : World} (h : Kp X a b) (hxy : ∀ k, k < a.heap.size → X k → Y k) : Kp Y a b :=
  ⟨h.os, h.tape, h.output, h.size, fun i hi hx => h.block i hi (fun hh => hx (hxy i hi hh))⟩
theorem Kp.alloc {X : Nat → Prop} {a b : World} (h : Kp X a b) (o : Obj) : Kp X a (b.alloc o) :=
  h.trans ⟨rfl, rfl, rfl, by simp, fun k hk _ => Below.heap_alloc _ _ _ hk⟩
theorem Kp.setCell {X : Nat → Prop} {a b : World} (h : Kp X a b) {p : Addr} (hp : p.block < a.heap.size → X p.block) (u : Value) : Kp X a (b.setCell p u) :=
  ⟨h.os, h.tape, h.output, by simpa using h.size, fun k hk hx => (Below.heap_setCell _ _ _ _ (fun e => hx (by subst e; exact hp hk))).trans (h.block k hk hx)⟩
theorem Kp.drewN {X : Nat → Prop} {a b : World} (h : Kp X a b) (n : Nat) : Kp X a (b.drewN n) := ⟨h.os, h.tape, h.output, h.size, h.block⟩
theorem Kp.drew {X : Nat → Prop} {a b : World} (h : Kp X a b) : Kp X a b.drew := ⟨h.os, h.tape, h.output, h.size, h.block⟩
theorem Kp.grown {X : Nat → Prop} {a w w' : World} {row : Option Nat} (h : Kp X a w) (hg : w.grownBy w' row) (hr : ∀ k, row = some k → k < a.heap.size → X k) : Kp X a w' :=
  ⟨hg.os.trans h.os, hg.tape.trans h.tape, hg.output.trans h.output, Nat.le_trans h.size hg.size, fun k hk hx => (hg.block k (Nat.lt_of_lt_of_le hk h.size) (fun e => hx (hr k e.symm hk))).trans (h.block k hk hx)⟩
theorem Kp.below {X : Nat → Prop} {a b : World} {B : Nat} (h : Kp X a b) (hB : B ≤ a.heap.size) (hX : ∀ k, X k → B ≤ k) : Below B a b :=
  ⟨h.os, h.tape, h.output, h.size, fun k hk => h.block k (by omega) (fun hx => by have := hX k hx; omega)⟩
theorem Kp.of_below {w w' : World} {B : Nat} (h : Below B w w') : Kp (fun k => B ≤ k) w w' :=
  ⟨h.os, h.tape, h.output, h.size, fun k _ hx => h.block k (by omega)⟩
theorem Kp.new {X : Nat → Prop} {w w' : World} (h : Below w.heap.size w w') : Kp X w w' :=
  ⟨h.os, h.tape, h.output, h.size, fun k hk _ => h.block k hk⟩
theorem Kp.toNew {w w' : World} (h : Kp (fun _ => False) w w') : Below w.heap.size w w' :=
  ⟨h.os, h.tape, h.output, h.size, fun k hk => h.block k hk (fun h => h)⟩

/-- A block's cells. -/
theorem blk_cell {w : World} {b : Nat} {arr : Array Value} {T : TypeId} {fr : Nat × Nat} (h : w.heap[b]? = some (.cells arr T fr)) (i : Nat) : w.cell? ⟨b, i, none⟩ = arr[i]? := by simp [World.cell?, h]
theorem blk_free {w : World} {b : Nat} {arr : Array Value} {T : TypeId} (h : w.heap[b]? = some (.cells arr T (0, 0))) (i : Nat) : w.frozen? ⟨b, i, none⟩ = false := by simp [World.frozen?, h]
theorem blk_set {w : World} {b : Nat} {arr : Array Value} {T : TypeId} {fr : Nat × Nat} (h : w.heap[b]? = some (.cells arr T fr)) (i : Nat) (u : Value) : (w.setCell ⟨b, i, none⟩ u).heap[b]? = some (.cells (arr.setIfInBounds i u) T fr) := by
  have hlt := lt_of_block h
  have h' : w.heap[b] = .cells arr T fr := by simpa [Array.getElem?_eq_getElem hlt] using h
  show (w.heap.modify b _)[b]? = _
  rw [Array.getElem?_eq_getElem (by simpa using hlt), Array.getElem_modify_self, h']
  rfl
theorem blk_new (w : World) (o : Obj) : (w.alloc o).heap[w.heap.size]? = some o := by
  show (w.heap.push o)[w.heap.size]? = _
  simp

/-- What an object of the call's own is made of: its block, and the block of the slice in its fourth cell. -/
def foot (w : World) (b k : Nat) : Prop := k = b ∨ ∃ v, w.cell? ⟨b, 3, none⟩ = some v ∧ v.ownBlock = some k
/-- A step on the object b. -/
structure Stp (b : Nat) (w w' : World) : Prop where
  kp : Kp (foot w b) w w'
  ft : ∀ k, foot w' b k → foot w b k ∨ w.heap.size ≤ k

theorem Stp.refl (b : Nat) (w : World) : Stp b w w := ⟨Kp.refl _ _, fun _ h => .inl h⟩
theorem Stp.trans {b : Nat} {x y z : World} (h : Stp b x y) (k : Stp b y z) : Stp b x z := by
  refine ⟨⟨k.kp.os.trans h.kp.os, k.kp.tape.trans h.kp.tape, k.kp.output.trans h.kp.output, Nat.le_trans h.kp.size k.kp.size, fun i hi hx => ?_⟩, fun i hi => ?_⟩
  · refine (k.kp.block i (Nat.lt_of_lt_of_le hi h.kp.size) (fun hf => ?_)).trans (h.kp.block i hi hx)
    rcases h.ft i hf with h1 | h1
    · exact hx h1
    · omega
  · rcases k.ft i hi with h1 | h1
    · exact h.ft i h1
    · exact .inr (Nat.le_trans h.kp.size h1)
theorem foot_same {w w' : World} {b : Nat} (h : w'.heap[b]? = w.heap[b]?) (k : Nat) : foot w' b k ↔ foot w b k := by
  unfold foot; rw [World.cell?_of_block (w := w) (a := ⟨b, 3, none⟩) h]
theorem Stp.new {b : Nat} {w w' : World} (h : Below w.heap.size w w') (hb : b < w.heap.size) : Stp b w w' :=
  ⟨Kp.new h, fun k hk => .inl ((foot_same (h.block b hb) k).1 hk)⟩
/-- Two objects lie apart. -/
def Dis (w : World) (b c : Nat) : Prop := ∀ k, foot w b k → ¬ foot w c k
theorem Dis.symm {w : World} {b c : Nat} (h : Dis w b c) : Dis w c b := fun k h1 h2 => h k h2 h1
/-- Every block of the object is there. -/
def Foots (w : World) (b : Nat) : Prop := ∀ k, foot w b k → k < w.heap.size
theorem Foots.lt {w : World} {b : Nat} (h : Foots w b) : b < w.heap.size := h b (.inl rfl)
theorem Stp.dis {b c : Nat} {w w' : World} (h : Stp b w w') (hd : Dis w b c) (hc : Foots w c) : Dis w' b c ∧ Foots w' c ∧ w'.heap[c]? = w.heap[c]? ∧ ∀ k, foot w c k → w'.heap[k]? = w.heap[k]? := by
  have hcb : w'.heap[c]? = w.heap[c]? := h.kp.block c hc.lt (fun hf => hd c hf (.inl rfl))
  refine ⟨fun k h1 h2 => ?_, fun k h1 => ?_, hcb, fun k h1 => ?_⟩
  · have h2' := (foot_same hcb k).1 h2
    rcases h.ft k h1 with h3 | h3
    · exact hd k h3 h2'
    · have := hc k h2'; omega
  · exact Nat.lt_of_lt_of_le (hc k ((foot_same hcb k).1 h1)) h.kp.size
  · exact h.kp.block k (hc k h1) (fun hf => hd k hf h1)
/-- A step on an object whose blocks are all at or beyond B leaves what is below. -/
theorem Stp.below {b B : Nat} {w w' : World} (h : Stp b w w') (hB : B ≤ w.heap.size) (hf : ∀ k, foot w b k → B ≤ k) : Below B w w' ∧ ∀ k, foot w' b k → B ≤ k :=
  ⟨h.kp.below hB hf, fun k hk => by rcases h.ft k hk with h1 | h1; exact hf k h1; omega⟩
end Go.Proofs.YthngdaeiopgigaaDoor
