/- An atlas in memory; what a call leaves as it lay. -/
import Derived.Test.YtfabmleiibnhdaaDoorAtAa
import Derived.Deep.RegionHeld3
import Derived.Deep.RegionLaw
import Derived.Deep.RegionHeldLaw
import Derived.Deep.AppendLies
import Derived.Deep.QuietTactic
import Derived.BigQuiet
namespace Go.Proofs.YtfabmleiibnhdaaDoor.At
open Go.RowKit Go.Shelf Go.Maps
/-- Outside S all lies as it lay. -/
structure St (S : Nat → Prop) (W W' : World) : Prop where
  os : W'.os = W.os
  tape : W'.tape = W.tape
  output : W'.output = W.output
  size : W.heap.size ≤ W'.heap.size
  block : ∀ k, k < W.heap.size → ¬ S k → W'.heap[k]? = W.heap[k]?
theorem St.refl (S : Nat → Prop) (W : World) : St S W W := ⟨rfl, rfl, rfl, Nat.le_refl _, fun _ _ _ => rfl⟩
theorem St.trans {S T : Nat → Prop} {a b c : World} (h : St S a b) (k : St T b c) (hs : ∀ x, x < a.heap.size → T x → S x) : St S a c :=
  ⟨k.os.trans h.os, k.tape.trans h.tape, k.output.trans h.output, Nat.le_trans h.size k.size, fun x hx hn => (k.block x (Nat.lt_of_lt_of_le hx h.size) (fun q => hn (hs x hx q))).trans (h.block x hx hn)⟩
theorem St.of_below {S : Nat → Prop} {a b : World} (h : Below a.heap.size a b) : St S a b := ⟨h.os, h.tape, h.output, h.size, fun k hk _ => h.block k hk⟩
theorem St.of_grown {S : Nat → Prop} {a b : World} {row : Option Nat} (h : a.grownBy b row) (hS : ∀ k, row = some k → S k) : St S a b :=
  ⟨h.os, h.tape, h.output, h.size, fun k hk hn => h.block k hk (fun e => hn (hS k e.symm))⟩
theorem St.below {S : Nat → Prop} {a b : World} {B : Nat} (h : St S a b) (hS : ∀ k, S k → B ≤ k) (hB : B ≤ a.heap.size) : Below B a b :=
  ⟨h.os, h.tape, h.output, h.size, fun k hk => h.block k (by omega) (fun q => by have := hS k q; omega)⟩
theorem St.setCell {S : Nat → Prop} {a : World} {p : Addr} (v : Value) (hp : S p.block) : St S a (a.setCell p v) :=
  ⟨rfl, rfl, rfl, by simp, fun k _ hn => Below.heap_setCell _ _ _ _ (fun e => hn (e ▸ hp))⟩
theorem St.at {S : Nat → Prop} {W W' : World} {b : Nat} {o : Obj} (hs : St S W W') (h : W.heap[b]? = some o) (hn : ¬ S b) : W'.heap[b]? = some o := (hs.block b (Array.getElem?_eq_some_iff.1 h).1 hn).trans h
theorem bAl (W : World) (o : Obj) : Below W.heap.size W (W.alloc o) := (Below.refl _ _).alloc (Nat.le_refl _) _
theorem cell_blk {W : World} {b j : Nat} {cs : Array Value} {e : TypeId} {u : Value} (h : W.heap[b]? = some (.cells cs e (0, 0))) (hj : cs[j]? = some u) : W.cell? ⟨b, j, none⟩ = some u := by
  rw [cell_of_row _ _ j _ e (0, 0) h]; exact hj
theorem blk_free {W : World} {b : Nat} {cs : Array Value} {e : TypeId} (h : W.heap[b]? = some (.cells cs e (0, 0))) (j : Nat) : W.frozen? ⟨b, j, none⟩ = false := by
  unfold World.frozen?
  rw [show (⟨b, j, none⟩ : Addr).block = b from rfl, h]
  simp
theorem blk_seen {W W' : World} {B b : Nat} {o : Obj} (hb : Below B W W') (hB : W.heap.size ≤ B) (h : W.heap[b]? = some o) : W'.heap[b]? = some o := (hb.block b (Nat.lt_of_lt_of_le (Array.getElem?_eq_some_iff.1 h).1 hB)).trans h
theorem seen {B : Nat} {W W' : World} (hb : Below B W W') (hB : W.heap.size ≤ B) {p : Addr} {u : Value} (h : W.cell? p = some u) : W'.cell? p = some u := (hb.cell (p := p) (Nat.lt_of_lt_of_le (World.block_lt_of_cell? W p h) hB)).trans h
/-- An atlas: how many components there are, the nodes' sets. -/
structure AS where
  n : Nat
  l : List Nat
structure AS.ok (s : AS) : Prop where
  n16 : s.n ≤ 16
  nd : s.l.Nodup
  lt : ∀ m ∈ s.l, m < 2 ^ s.n
theorem AS.ok.small {s : AS} (h : s.ok) : s.l.length ≤ 65536 := Nat.le_trans (few_of h.nd h.lt) (pow_le h.n16)
theorem AS.ok.u16 {s : AS} (h : s.ok) {m : Nat} (hm : m ∈ s.l) : m < 65536 := Nat.lt_of_lt_of_le (h.lt m hm) (pow_le h.n16)
def AS.put (s : AS) (m : Nat) : AS := ⟨s.n, add s.l m⟩
theorem AS.ok.put {s : AS} (h : s.ok) {m : Nat} (hm : m < 2 ^ s.n) : (s.put m).ok :=
  ⟨h.n16, add_nodup h.nd m, fun x hx => (mem_add.1 hx).elim (h.lt x) fun e => e ▸ hm⟩
/-- The blocks of an atlas. -/
def Ft (rb mb : Nat) (sv : Value) (k : Nat) : Prop := k = rb ∨ k = mb ∨ sv.ownBlock = some k
section
variable {B : Nat} {W W' : World} {rb mb : Nat} {sv : Value} {s : AS}
end
section
variable {B : Nat} {W W' : World} {rb : Nat} {s : AS} {S : Nat → Prop}
end
end Go.Proofs.YtfabmleiibnhdaaDoor.At
