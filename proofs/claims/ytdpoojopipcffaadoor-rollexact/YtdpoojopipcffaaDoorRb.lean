/- A roll in memory; what a call leaves as it lay. -/
import Derived.Test.YtdpoojopipcffaaDoorRa
import Derived.Deep.RegionHeld3
namespace Go.Proofs.YtdpoojopipcffaaDoor
open Go.RowKit Go.Shelf Go.Maps
/-- Outside S all lies as it lay. -/
structure St (S : Nat → Prop) (W W' : World) : Prop where
  os : W'.os = W.os
  tape : W'.tape = W.tape
  output : W'.output = W.output
  size : W.heap.size ≤ W'.heap.size
  block : ∀ k, k < W.heap.size → ¬ S k → W'.heap[k]? = W.heap[k]?
theorem St.refl (S : Nat → Prop) (W : World) : St S W W := ⟨rfl, rfl, rfl, Nat.le_refl _, fun _ _ _ => rfl⟩
theorem St.trans {S T : Nat → Prop} {a b c : World} (h : St S a b) (k : St T b c) (hs : ∀ x, x < a.heap.size → T x → S x) : St S a c :=
  ⟨k.os.trans h.os, k.tape.trans h.tape, k.output.trans h.output, Nat.le_trans h.size k.size, fun x hx hn => (k.block x (Nat.lt_of_lt_of_le hx h.size) (fun q => hn (hs x hx q))).trans (h.block x hx hn)⟩
theorem St.of_below {S : Nat → Prop} {a b : World} (h : Below a.heap.size a b) : St S a b := ⟨h.os, h.tape, h.output, h.size, fun k hk _ => h.block k hk⟩
theorem St.of_grown {S : Nat → Prop} {a b : World} {row : Option Nat} (h : a.grownBy b row) (hS : ∀ k, row = some k → S k) : St S a b :=
  ⟨h.os, h.tape, h.output, h.size, fun k hk hn => h.block k hk (fun e => hn (hS k e.symm))⟩
theorem St.below {S : Nat → Prop} {a b : World} {B : Nat} (h : St S a b) (hS : ∀ k, S k → B ≤ k) (hB : B ≤ a.heap.size) : Below B a b :=
  ⟨h.os, h.tape, h.output, h.size, fun k hk => h.block k (by omega) (fun q => by have := hS k q; omega)⟩
theorem St.setCell {S : Nat → Prop} {a : World} {p : Addr} (v : Value) (hp : S p.block) : St S a (a.setCell p v) :=
  ⟨rfl, rfl, rfl, by simp, fun k _ hn => Below.heap_setCell _ _ _ _ (fun e => hn (e ▸ hp))⟩
def gI (n : Nat) : Value := .int .i64 (n : Int)
/-- The blocks of a roll. -/
def Ft (rb gb mb : Nat) (fv : Value) (k : Nat) : Prop := k = rb ∨ k = gb ∨ k = mb ∨ fv.ownBlock = some k
/-- A roll in memory. -/
structure Rl (B : Nat) (W : World) (rb gb mb : Nat) (fv : Value) (t : Nat) (r : RS) : Prop where
  box : W.heap[rb]? = some (.cells #[.slice (some ⟨gb, 0, none⟩) r.gens.length r.gens.length, fv, .map (some mb)] 56 (0, 0))
  gens : W.heap[gb]? = some (.cells (r.gens.map gI).toArray 3 (0, 0))
  free : W.ownsRow B 3 1 fv r.free.length (r.free.map gI)
  map : ∃ D, W.ownsMap Tryd.prog 24 (unitElem (H := Unit)) mb t D ∧ Holds D r
  ok : r.ok
  small : r.gens.length ≤ 64
  old : ∀ g ∈ r.gens, g ≤ t
  low : B ≤ rb ∧ B ≤ gb ∧ B ≤ mb
  apart : fv.ownBlock ≠ some gb
theorem Rl.kept {B : Nat} {W W' : World} {rb gb mb t : Nat} {fv : Value} {r : RS} {T : Nat → Prop} (h : Rl B W rb gb mb fv t r) (hs : St T W W') (hd : ∀ k, Ft rb gb mb fv k → ¬ T k) : Rl B W' rb gb mb fv t r := by
  have lt := fun {k : Nat} {o : Obj} (h : W.heap[k]? = some o) => (Array.getElem?_eq_some_iff.1 h).1
  refine ⟨(hs.block rb (lt h.box) (hd _ (.inl rfl))).trans h.box, (hs.block gb (lt h.gens) (hd _ (.inr (.inl rfl)))).trans h.gens, ?_, ?_, h.ok, h.small, h.old, h.low, h.apart⟩
  · exact own_later h.free fun g cur hg hb => (hs.block g (lt hb) (hd _ (.inr (.inr (.inr hg))))).trans hb
  · obtain ⟨D, ⟨es, clock, hb, q⟩, hH⟩ := h.map
    exact ⟨D, ⟨es, clock, (hs.block mb (lt hb) (hd _ (.inr (.inr (.inl rfl))))).trans hb, q⟩, hH⟩
theorem Rl.later {B : Nat} {W W' : World} {rb gb mb t : Nat} {fv : Value} {r : RS} (h : Rl B W rb gb mb fv t r) (hb : Below W.heap.size W W') : Rl B W' rb gb mb fv t r := h.kept (T := fun _ => False) (St.of_below hb) (fun _ _ q => q)
theorem Rl.lt {B : Nat} {W : World} {rb gb mb t : Nat} {fv : Value} {r : RS} (h : Rl B W rb gb mb fv t r) (k : Nat) (hk : Ft rb gb mb fv k) : B ≤ k ∧ k < W.heap.size := by
  have lt := fun {k : Nat} {o : Obj} (h : W.heap[k]? = some o) => (Array.getElem?_eq_some_iff.1 h).1
  rcases hk with rfl | rfl | rfl | hk
  · exact ⟨h.low.1, lt h.box⟩
  · exact ⟨h.low.2.1, lt h.gens⟩
  · obtain ⟨D, hD, _⟩ := h.map; exact ⟨h.low.2.2, hD.lt⟩
  · exact h.free.lt k hk
theorem cell_blk {W : World} {b j : Nat} {cs : Array Value} {e : TypeId} {u : Value} (h : W.heap[b]? = some (.cells cs e (0, 0))) (hj : cs[j]? = some u) : W.cell? ⟨b, j, none⟩ = some u := by
  rw [cell_of_row _ _ j _ e (0, 0) h]; exact hj
theorem Rl.c0 {B : Nat} {W : World} {rb gb mb t : Nat} {fv : Value} {r : RS} (h : Rl B W rb gb mb fv t r) : W.cell? ⟨rb, 0, none⟩ = some (.slice (some ⟨gb, 0, none⟩) r.gens.length r.gens.length) := cell_blk h.box rfl
theorem Rl.c1 {B : Nat} {W : World} {rb gb mb t : Nat} {fv : Value} {r : RS} (h : Rl B W rb gb mb fv t r) : W.cell? ⟨rb, 1, none⟩ = some fv := cell_blk h.box rfl
theorem Rl.c2 {B : Nat} {W : World} {rb gb mb t : Nat} {fv : Value} {r : RS} (h : Rl B W rb gb mb fv t r) : W.cell? ⟨rb, 2, none⟩ = some (.map (some mb)) := cell_blk h.box rfl
theorem seen {B : Nat} {W W' : World} (hb : Below B W W') (hB : W.heap.size ≤ B) {p : Addr} {u : Value} (h : W.cell? p = some u) : W'.cell? p = some u := (hb.cell (p := p) (Nat.lt_of_lt_of_le (World.block_lt_of_cell? W p h) hB)).trans h
theorem look_ent {W : World} {mb t : Nat} {D : DataW Unit} (hD : W.ownsMap Tryd.prog 24 (unitElem (H := Unit)) mb t D) {i g : Int} (hi : I64 i) (hg : I64 g) {b : Bool} (hb : Maps.has D (kl i g) = b) :
    (Instr.lookup 54 (.map (some mb)) (.agg #[.int .i64 i, .int .i64 g]) true).run Tryd.prog W = .ok (.tuple #[.agg #[], .bool b]) W := by
  obtain ⟨v, ps, hr, hv⟩ := hD.look_ok keyed24 Tryd.underlying54 (zero63 W) (unitElem_mk (H := Unit)) (key_ent i g hi hg)
  obtain ⟨rfl, -⟩ := unitElem_inv hv
  rw [hb] at hr
  exact hr
set_option maxHeartbeats 1600000 in
set_option maxRecDepth 100000 in
theorem alive_any {B : Nat} {W : World} {rb gb mb t : Nat} {fv : Value} {r : RS} (h : Rl B W rb gb mb fv t r) (i g : Int) (hi : I64 i) (hg : I64 g) :
    Calls Tryd.prog 15 #[.pointer (some ⟨rb, 0, none⟩), .agg #[.int .i64 i, .int .i64 g]] W fun e W' => e = .returned (.bool (r.aliveB i g)) ∧ Below W.heap.size W W' := by
  have BA : Hid (Below W.heap.size W (W.alloc (.cells #[.int .i64 i, .int .i64 g] 24))) := (Below.refl _ _).alloc (Nat.le_refl _) _
  obtain ⟨d0, d1⟩ := cell_new2 W (.int .i64 i) (.int .i64 g) 24
  have KK : Hid (∀ W', Below (W.alloc (.cells #[.int .i64 i, .int .i64 g] 24)).heap.size (W.alloc (.cells #[.int .i64 i, .int .i64 g] 24)) W' → W'.cell? ⟨rb, 2, none⟩ = some (.map (some mb)) ∧ W'.cell? ⟨W.heap.size, 0, none⟩ = some (.int .i64 i) ∧ W'.cell? ⟨W.heap.size, 1, none⟩ = some (.int .i64 g) ∧ (Instr.lookup 54 (.map (some mb)) (.agg #[.int .i64 i, .int .i64 g]) true).run Tryd.prog W' = .ok (.tuple #[.agg #[], .bool (r.aliveB i g)]) W') := by
    intro W' hb
    have h' := (h.later BA.out).later hb
    obtain ⟨D, hD, hH⟩ := h'.map
    exact ⟨h'.c2, seen hb (Nat.le_refl _) d0, seen hb (Nat.le_refl _) d1, look_ent hD hi hg (hH.1 i g hi hg)⟩
  generalize r.aliveB i g = res at *
  clear h hi hg d0 d1
  go_enter Tryd.func15, Tryd.ntmps15
  go_wp2_with fail
  go_region_held3 (fun W' => W'.cell? ⟨rb, 2, none⟩ = some (.map (some mb)) ∧ W'.cell? ⟨W.heap.size, 0, none⟩ = some (.int .i64 i) ∧ W'.cell? ⟨W.heap.size, 1, none⟩ = some (.int .i64 g) ∧ (Instr.lookup 54 (.map (some mb)) (.agg #[.int .i64 i, .int .i64 g]) true).run Tryd.prog W' = .ok (.tuple #[.agg #[], .bool res]) W')
    (first | exact KK.out _ (Below.refl _ _).drew | exact KK.out _ ((Below.refl _ _).drew.alloc (by simp) _)) (fail)
  all_goals go_wp2_with fail
  all_goals go_ret
  all_goals exact ⟨rfl, (BA.out.alloc (by simp) _).drew⟩
set_option maxHeartbeats 400000 in
theorem alive_nil (v : Value) (i g : Int) (hv : v = .agg #[.int .i64 i, .int .i64 g]) (W : World) : Calls Tryd.prog 15 #[.pointer none, v] W fun e W' => e = .returned (.bool false) ∧ Below W.heap.size W W' := by
  subst hv
  go_enter Tryd.func15, Tryd.ntmps15
  go_wp2
  go_ret
  exact ⟨rfl, (Below.refl _ _).alloc (Nat.le_refl _) _⟩
theorem len_map {W : World} {mb t : Nat} {D : DataW Unit} (hD : W.ownsMap Tryd.prog 24 (unitElem (H := Unit)) mb t D) (n : Nat) (hn : Maps.size D = n) (ty : TypeId) :
    (Builtin.len_ #[54] ty #[.map (some mb)]).run Tryd.prog W = .ok (.int .i64 (n : Int)) W := by
  rw [← hn]; exact hD.len Tryd.underlying54 ty
/-- How many are given. -/
def RS.count (r : RS) : Nat := r.gens.length - r.free.length
set_option maxHeartbeats 800000 in
theorem count_any {B : Nat} {W : World} {rb gb mb t : Nat} {fv : Value} {r : RS} (h : Rl B W rb gb mb fv t r) :
    Calls Tryd.prog 20 #[.pointer (some ⟨rb, 0, none⟩)] W fun e W' => e = .returned (.int .i64 (r.count : Int)) ∧ W' = W := by
  have c2 := h.c2
  obtain ⟨D, hD, hH⟩ := h.map
  have hl := len_map hD r.count (by have := hH.2; unfold RS.count; omega)
  clear hD hH h
  go_enter Tryd.func20, Tryd.ntmps20
  go_wp2
  go_ret
  exact ⟨rfl, rfl⟩
set_option maxHeartbeats 800000 in
theorem most_any {B : Nat} {W : World} {rb gb mb t : Nat} {fv : Value} {r : RS} (h : Rl B W rb gb mb fv t r) :
    Calls Tryd.prog 21 #[.pointer (some ⟨rb, 0, none⟩)] W fun e W' => e = .returned (.int .i64 (r.gens.length : Int)) ∧ W' = W := by
  have c0 := h.c0
  clear h
  go_enter Tryd.func21, Tryd.ntmps21
  go_wp2
  go_ret
  exact ⟨rfl, rfl⟩
set_option maxHeartbeats 400000 in
theorem count_nil (W : World) : Calls Tryd.prog 20 #[.pointer none] W fun e W' => e = .returned (.int .i64 0) ∧ W' = W := by
  go_enter Tryd.func20, Tryd.ntmps20
  go_wp2
  go_ret
  exact ⟨rfl, rfl⟩
set_option maxHeartbeats 400000 in
theorem most_nil (W : World) : Calls Tryd.prog 21 #[.pointer none] W fun e W' => e = .returned (.int .i64 0) ∧ W' = W := by
  go_enter Tryd.func21, Tryd.ntmps21
  go_wp2
  go_ret
  exact ⟨rfl, rfl⟩
end Go.Proofs.YtdpoojopipcffaaDoor
