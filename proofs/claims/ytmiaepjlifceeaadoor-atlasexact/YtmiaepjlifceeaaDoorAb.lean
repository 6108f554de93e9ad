/- An atlas in memory; what a call leaves as it lay. -/
import Derived.Test.YtmiaepjlifceeaaDoorAa
import Derived.Deep.RegionHeld3
import Derived.Deep.RegionLaw
import Derived.Deep.RegionHeldLaw
import Derived.Deep.AppendLies
import Derived.Deep.QuietTactic
import Derived.BigQuiet
namespace Go.Proofs.YtmiaepjlifceeaaDoor
open Go.RowKit Go.Shelf Go.Maps
/-- Outside S all lies as it lay. -/
structure St (S : Nat → Prop) (W W' : World) : Prop where
  os : W'.os = W.os
  tape : W'.tape = W.tape
  output : W'.output = W.output
  size : W.heap.size ≤ W'.heap.size
  block : ∀ k, k < W.heap.size → ¬ S k → W'.heap[k]? = W.heap[k]?
theorem St.refl (S : Nat → Prop) (W : World) : St S W W := ⟨rfl, rfl, rfl, Nat.le_refl _, fun _ _ _ => rfl⟩
theorem St.trans {S T : Nat → Prop} {a b c : World} (h : St S a b) (k : St T b c) (hs : ∀ x, x < a.heap.size → T x → S x) : St S a c :=
  ⟨k.os.trans h.os, k.tape.trans h.tape, k.output.trans h.output, Nat.le_trans h.size k.size, fun x hx hn => (k.block x (Nat.lt_of_lt_of_le hx h.size) (fun q => hn (hs x hx q))).trans (h.block x hx hn)⟩
theorem St.of_below {S : Nat → Prop} {a b : World} (h : Below a.heap.size a b) : St S a b := ⟨h.os, h.tape, h.output, h.size, fun k hk _ => h.block k hk⟩
theorem St.of_grown {S : Nat → Prop} {a b : World} {row : Option Nat} (h : a.grownBy b row) (hS : ∀ k, row = some k → S k) : St S a b :=
  ⟨h.os, h.tape, h.output, h.size, fun k hk hn => h.block k hk (fun e => hn (hS k e.symm))⟩
theorem St.below {S : Nat → Prop} {a b : World} {B : Nat} (h : St S a b) (hS : ∀ k, S k → B ≤ k) (hB : B ≤ a.heap.size) : Below B a b :=
  ⟨h.os, h.tape, h.output, h.size, fun k hk => h.block k (by omega) (fun q => by have := hS k q; omega)⟩
theorem St.setCell {S : Nat → Prop} {a : World} {p : Addr} (v : Value) (hp : S p.block) : St S a (a.setCell p v) :=
  ⟨rfl, rfl, rfl, by simp, fun k _ hn => Below.heap_setCell _ _ _ _ (fun e => hn (e ▸ hp))⟩
theorem St.at {S : Nat → Prop} {W W' : World} {b : Nat} {o : Obj} (hs : St S W W') (h : W.heap[b]? = some o) (hn : ¬ S b) : W'.heap[b]? = some o := (hs.block b (Array.getElem?_eq_some_iff.1 h).1 hn).trans h
theorem bAl (W : World) (o : Obj) : Below W.heap.size W (W.alloc o) := (Below.refl _ _).alloc (Nat.le_refl _) _
theorem cell_blk {W : World} {b j : Nat} {cs : Array Value} {e : TypeId} {u : Value} (h : W.heap[b]? = some (.cells cs e (0, 0))) (hj : cs[j]? = some u) : W.cell? ⟨b, j, none⟩ = some u := by
  rw [cell_of_row _ _ j _ e (0, 0) h]; exact hj
theorem blk_free {W : World} {b : Nat} {cs : Array Value} {e : TypeId} (h : W.heap[b]? = some (.cells cs e (0, 0))) (j : Nat) : W.frozen? ⟨b, j, none⟩ = false := by
  unfold World.frozen?
  rw [show (⟨b, j, none⟩ : Addr).block = b from rfl, h]
  simp
theorem blk_seen {W W' : World} {B b : Nat} {o : Obj} (hb : Below B W W') (hB : W.heap.size ≤ B) (h : W.heap[b]? = some o) : W'.heap[b]? = some o := (hb.block b (Nat.lt_of_lt_of_le (Array.getElem?_eq_some_iff.1 h).1 hB)).trans h
theorem seen {B : Nat} {W W' : World} (hb : Below B W W') (hB : W.heap.size ≤ B) {p : Addr} {u : Value} (h : W.cell? p = some u) : W'.cell? p = some u := (hb.cell (p := p) (Nat.lt_of_lt_of_le (World.block_lt_of_cell? W p h) hB)).trans h
/-- An atlas: how many components there are, the nodes' sets. -/
structure AS where
  n : Nat
  l : List Nat
structure AS.ok (s : AS) : Prop where
  n16 : s.n ≤ 16
  nd : s.l.Nodup
  lt : ∀ m ∈ s.l, m < 2 ^ s.n
theorem AS.ok.small {s : AS} (h : s.ok) : s.l.length ≤ 65536 := Nat.le_trans (few_of h.nd h.lt) (pow_le h.n16)
theorem AS.ok.u16 {s : AS} (h : s.ok) {m : Nat} (hm : m ∈ s.l) : m < 65536 := Nat.lt_of_lt_of_le (h.lt m hm) (pow_le h.n16)
def AS.put (s : AS) (m : Nat) : AS := ⟨s.n, add s.l m⟩
theorem AS.ok.put {s : AS} (h : s.ok) {m : Nat} (hm : m < 2 ^ s.n) : (s.put m).ok :=
  ⟨h.n16, add_nodup h.nd m, fun x hx => (mem_add.1 hx).elim (h.lt x) fun e => e ▸ hm⟩
/-- The blocks of an atlas. -/
def Ft (rb mb : Nat) (sv : Value) (k : Nat) : Prop := k = rb ∨ k = mb ∨ sv.ownBlock = some k
/-- An atlas in memory. -/
structure Cl (B : Nat) (W : World) (rb mb : Nat) (sv : Value) (s : AS) : Prop where
  box : W.heap[rb]? = some (.cells #[.int .u32 ((2 ^ s.n - 1 : Nat) : Int), sv, .map (some mb)] 66 (0, 0))
  row : W.ownsRow B 33 1 sv s.l.length (s.l.map gM)
  map : ∃ D, W.ownsMap Tryd.prog 33 (plainElem Tryd.prog 3) mb s.l.length D ∧ Holds D s.l
  ok : s.ok
  low : B ≤ rb ∧ B ≤ mb
section
variable {B : Nat} {W W' : World} {rb mb : Nat} {sv : Value} {s : AS}
theorem Cl.kept {T : Nat → Prop} (h : Cl B W rb mb sv s) (hs : St T W W') (hd : ∀ k, Ft rb mb sv k → ¬ T k) : Cl B W' rb mb sv s := by
  have lt := fun {k : Nat} {o : Obj} (h : W.heap[k]? = some o) => (Array.getElem?_eq_some_iff.1 h).1
  refine ⟨(hs.block rb (lt h.box) (hd _ (.inl rfl))).trans h.box, ?_, ?_, h.ok, h.low⟩
  · exact own_later h.row fun g cur hg hb => (hs.block g (lt hb) (hd _ (.inr (.inr hg)))).trans hb
  · obtain ⟨D, ⟨es, clock, hb, q⟩, hH⟩ := h.map
    exact ⟨D, ⟨es, clock, (hs.block mb (lt hb) (hd _ (.inr (.inl rfl)))).trans hb, q⟩, hH⟩
theorem Cl.later (h : Cl B W rb mb sv s) (hb : Below W.heap.size W W') : Cl B W' rb mb sv s := h.kept (T := fun _ => False) (St.of_below hb) (fun _ _ q => q)
theorem Cl.lt (h : Cl B W rb mb sv s) (k : Nat) (hk : Ft rb mb sv k) : B ≤ k ∧ k < W.heap.size := by
  have lt := fun {k : Nat} {o : Obj} (h : W.heap[k]? = some o) => (Array.getElem?_eq_some_iff.1 h).1
  rcases hk with rfl | rfl | hk
  · exact ⟨h.low.1, lt h.box⟩
  · obtain ⟨D, hD, _⟩ := h.map; exact ⟨h.low.2, hD.lt⟩
  · exact h.row.lt k hk
theorem Cl.base (h : Cl B W rb mb sv s) : B ≤ W.heap.size := by have := h.lt rb (.inl rfl); omega
theorem Cl.c0 (h : Cl B W rb mb sv s) : W.cell? ⟨rb, 0, none⟩ = some (.int .u32 ((2 ^ s.n - 1 : Nat) : Int)) := cell_blk h.box rfl
theorem Cl.c1 (h : Cl B W rb mb sv s) : W.cell? ⟨rb, 1, none⟩ = some sv := cell_blk h.box rfl
theorem Cl.c2 (h : Cl B W rb mb sv s) : W.cell? ⟨rb, 2, none⟩ = some (.map (some mb)) := cell_blk h.box rfl
theorem Cl.ne_rm (h : Cl B W rb mb sv s) : rb ≠ mb := fun e => by
  have h1 := h.box
  obtain ⟨D, ⟨es, cl, hb, _⟩, _⟩ := h.map
  rw [e, hb] at h1
  simp at h1
theorem Cl.ne_f (h : Cl B W rb mb sv s) (k : Nat) (hk : sv.ownBlock = some k) : k ≠ rb ∧ k ≠ mb := by
  rcases h.row.2 with ⟨h1, _⟩ | ⟨g, cap, cur, h1, h2, h3, h4⟩
  · rw [h1] at hk; simp [Value.ownBlock] at hk
  · rw [h1] at hk
    have e : g = k := by simpa [Value.ownBlock] using hk
    subst e
    refine ⟨fun e => ?_, fun e => ?_⟩
    · rw [e, h.box] at h3; simp at h3
    · obtain ⟨D, ⟨es, cl, hb, _⟩, _⟩ := h.map
      rw [e, hb] at h3; simp at h3
theorem Cl.cell (h : Cl B W rb mb sv s) {i m : Nat} (hi : s.l[i]? = some m) : ∃ g cap, sv = .slice (some ⟨g, 0, none⟩) s.l.length cap ∧ W.cell? ⟨g, i, none⟩ = some (.int .u32 (m : Int)) := by
  have hlt := (List.getElem?_eq_some_iff.1 hi).1
  obtain ⟨a, c, rfl⟩ := own_slice h.row
  obtain ⟨g, rfl, -, -⟩ := own_some h.row (by omega)
  refine ⟨g, c, rfl, ?_⟩
  rw [World.ownsRow.cellAt h.row i (by omega), List.getElem?_map, hi]
  rfl
end
/-- An atlas whose blocks are S. -/
def Atl (B : Nat) (W : World) (rb : Nat) (s : AS) (S : Nat → Prop) : Prop := ∃ mb sv, Cl B W rb mb sv s ∧ ∀ k, S k ↔ Ft rb mb sv k
/-- What a call that may make nodes leaves. -/
def Goes (B rb : Nat) (s' : AS) (S : Nat → Prop) (W W' : World) : Prop := ∃ S', Atl B W' rb s' S' ∧ St S W W' ∧ ∀ x, S' x → S x ∨ W.heap.size ≤ x
section
variable {B : Nat} {W W' : World} {rb : Nat} {s : AS} {S : Nat → Prop}
theorem Atl.kept {T : Nat → Prop} (h : Atl B W rb s S) (hs : St T W W') (hd : ∀ k, S k → ¬ T k) : Atl B W' rb s S := by
  obtain ⟨mb, sv, h1, h2⟩ := h
  exact ⟨mb, sv, h1.kept hs fun k hk => hd k ((h2 k).2 hk), h2⟩
theorem Atl.later (h : Atl B W rb s S) (hb : Below W.heap.size W W') : Atl B W' rb s S := h.kept (T := fun _ => False) (St.of_below hb) fun _ _ q => q
theorem Atl.lt (h : Atl B W rb s S) (k : Nat) (hk : S k) : B ≤ k ∧ k < W.heap.size := by
  obtain ⟨mb, sv, h1, h2⟩ := h
  exact h1.lt k ((h2 k).1 hk)
theorem Atl.ok (h : Atl B W rb s S) : s.ok := by obtain ⟨mb, sv, h1, h2⟩ := h; exact h1.ok
theorem Atl.base (h : Atl B W rb s S) : B ≤ W.heap.size := by obtain ⟨mb, sv, h1, h2⟩ := h; exact h1.base
theorem Atl.below (h : Atl B W rb s S) (hs : St S W W') : Below B W W' := hs.below (fun k hk => (h.lt k hk).1) h.base
theorem Atl.lower {B' : Nat} (h : Atl B W rb s S) (hB : B' ≤ B) : Atl B' W rb s S := by
  obtain ⟨mb, sv, h1, h2⟩ := h
  refine ⟨mb, sv, ⟨h1.box, ⟨h1.row.1, ?_⟩, h1.map, h1.ok, by have := h1.low; omega, by have := h1.low; omega⟩, h2⟩
  rcases h1.row.2 with q | ⟨g, cap, cur, q1, q2, q3⟩
  · exact .inl q
  · exact .inr ⟨g, cap, cur, q1, by omega, q3⟩
theorem Goes.stay (h : Atl B W rb s S) (hb : Below W.heap.size W W') : Goes B rb s S W W' := ⟨S, h.later hb, St.of_below hb, fun _ q => .inl q⟩
theorem Goes.trans {s1 s2 : AS} {W1 W2 : World} (h : Goes B rb s1 S W W1) (hn : ∀ S1, Atl B W1 rb s1 S1 → Goes B rb s2 S1 W1 W2) : Goes B rb s2 S W W2 := by
  obtain ⟨S1, a1, st1, f1⟩ := h
  obtain ⟨S2, a2, st2, f2⟩ := hn S1 a1
  refine ⟨S2, a2, st1.trans st2 fun x hx q => (f1 x q).elim id fun q => by omega, fun x q => ?_⟩
  rcases f2 x q with q | q
  · exact f1 x q
  · exact .inr (by have := st1.size; omega)
end
set_option maxHeartbeats 400000 in
theorem len_nil (W : World) : Calls Tryd.prog 22 #[.pointer none] W fun e W' => e = .returned (.int .i64 0) ∧ W' = W := by
  go_enter Tryd.func22, Tryd.ntmps22
  go_wp2
  go_ret
  exact ⟨rfl, rfl⟩
set_option maxHeartbeats 800000 in
theorem atl_len {B : Nat} {W : World} {rb : Nat} {s : AS} {S : Nat → Prop} (h : Atl B W rb s S) :
    Calls Tryd.prog 22 #[.pointer (some ⟨rb, 0, none⟩)] W fun e W' => e = .returned (.int .i64 (s.l.length : Int)) ∧ W' = W := by
  obtain ⟨mb, sv, h1, h2⟩ := h
  have c1 := h1.c1
  obtain ⟨a, c, rfl⟩ := own_slice h1.row
  clear h1 h2
  go_enter Tryd.func22, Tryd.ntmps22
  go_wp2
  go_ret
  exact ⟨rfl, rfl⟩
end Go.Proofs.YtmiaepjlifceeaaDoor
