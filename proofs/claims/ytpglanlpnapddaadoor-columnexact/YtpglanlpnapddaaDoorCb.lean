/- A column in memory; what a call leaves as it lay; Len, and the cells of a row. -/
import Derived.Test.YtpglanlpnapddaaDoorCa
import Derived.Deep.RegionHeld3
import Derived.Deep.QuietTactic
import Derived.BigQuiet
namespace Go.Proofs.YtpglanlpnapddaaDoor
open Go.RowKit Go.Shelf Go.Maps
/-- Outside S all lies as it lay. -/
structure St (S : Nat → Prop) (W W' : World) : Prop where
  os : W'.os = W.os
  tape : W'.tape = W.tape
  output : W'.output = W.output
  size : W.heap.size ≤ W'.heap.size
  block : ∀ k, k < W.heap.size → ¬ S k → W'.heap[k]? = W.heap[k]?
theorem St.refl (S : Nat → Prop) (W : World) : St S W W := ⟨rfl, rfl, rfl, Nat.le_refl _, fun _ _ _ => rfl⟩
theorem St.trans {S T : Nat → Prop} {a b c : World} (h : St S a b) (k : St T b c) (hs : ∀ x, x < a.heap.size → T x → S x) : St S a c :=
  ⟨k.os.trans h.os, k.tape.trans h.tape, k.output.trans h.output, Nat.le_trans h.size k.size, fun x hx hn => (k.block x (Nat.lt_of_lt_of_le hx h.size) (fun q => hn (hs x hx q))).trans (h.block x hx hn)⟩
theorem St.of_below {S : Nat → Prop} {a b : World} (h : Below a.heap.size a b) : St S a b := ⟨h.os, h.tape, h.output, h.size, fun k hk _ => h.block k hk⟩
theorem St.of_grown {S : Nat → Prop} {a b : World} {row : Option Nat} (h : a.grownBy b row) (hS : ∀ k, row = some k → S k) : St S a b :=
  ⟨h.os, h.tape, h.output, h.size, fun k hk hn => h.block k hk (fun e => hn (hS k e.symm))⟩
theorem St.below {S : Nat → Prop} {a b : World} {B : Nat} (h : St S a b) (hS : ∀ k, S k → B ≤ k) (hB : B ≤ a.heap.size) : Below B a b :=
  ⟨h.os, h.tape, h.output, h.size, fun k hk => h.block k (by omega) (fun q => by have := hS k q; omega)⟩
theorem St.setCell {S : Nat → Prop} {a : World} {p : Addr} (v : Value) (hp : S p.block) : St S a (a.setCell p v) :=
  ⟨rfl, rfl, rfl, by simp, fun k _ hn => Below.heap_setCell _ _ _ _ (fun e => hn (e ▸ hp))⟩
theorem St.at {S : Nat → Prop} {W W' : World} {b : Nat} {o : Obj} (hs : St S W W') (h : W.heap[b]? = some o) (hn : ¬ S b) : W'.heap[b]? = some o := (hs.block b (Array.getElem?_eq_some_iff.1 h).1 hn).trans h
theorem bAl (W : World) (o : Obj) : Below W.heap.size W (W.alloc o) := (Below.refl _ _).alloc (Nat.le_refl _) _
theorem cell_blk {W : World} {b j : Nat} {cs : Array Value} {e : TypeId} {u : Value} (h : W.heap[b]? = some (.cells cs e (0, 0))) (hj : cs[j]? = some u) : W.cell? ⟨b, j, none⟩ = some u := by
  rw [cell_of_row _ _ j _ e (0, 0) h]; exact hj
theorem blk_free {W : World} {b : Nat} {cs : Array Value} {e : TypeId} (h : W.heap[b]? = some (.cells cs e (0, 0))) (j : Nat) : W.frozen? ⟨b, j, none⟩ = false := by
  unfold World.frozen?
  rw [show (⟨b, j, none⟩ : Addr).block = b from rfl, h]
  simp
theorem blk_seen {W W' : World} {B b : Nat} {o : Obj} (hb : Below B W W') (hB : W.heap.size ≤ B) (h : W.heap[b]? = some o) : W'.heap[b]? = some o := (hb.block b (Nat.lt_of_lt_of_le (Array.getElem?_eq_some_iff.1 h).1 hB)).trans h
theorem seen {B : Nat} {W W' : World} (hb : Below B W W') (hB : W.heap.size ≤ B) {p : Addr} {u : Value} (h : W.cell? p = some u) : W'.cell? p = some u := (hb.cell (p := p) (Nat.lt_of_lt_of_le (World.block_lt_of_cell? W p h) hB)).trans h
/-- A column: its component, its width, its rows. -/
structure CS where
  comp : Int
  w : Nat
  rows : List Pt
structure CS.ok (s : CS) : Prop where
  w0 : 1 ≤ s.w
  w4 : s.w ≤ 4
  fit : ∀ p ∈ s.rows, p.fitB s.w = true ∧ I64 p.t
/-- The blocks of a column. -/
def Ft (rb mb : Nat) (sv : Value) (k : Nat) : Prop := k = rb ∨ k = mb ∨ sv.ownBlock = some k
/-- A column in memory. -/
structure Cl (B : Nat) (W : World) (rb mb : Nat) (sv : Value) (s : CS) : Prop where
  box : W.heap[rb]? = some (.cells #[.int .i64 s.comp, .int .i64 (s.w : Int), sv, .map (some mb)] 68 (0, 0))
  row : W.ownsRow B 3 1 sv (s.rows.length * s.w) (flat s.w s.rows)
  map : ∃ D, W.ownsMap Tryd.prog 3 (plainElem Tryd.prog 3) mb s.rows.length D ∧ Holds D s.rows
  ok : s.ok
  small : s.rows.length ≤ 1000
  low : B ≤ rb ∧ B ≤ mb
section
variable {B : Nat} {W W' : World} {rb mb : Nat} {sv : Value} {s : CS}
theorem Cl.kept {T : Nat → Prop} (h : Cl B W rb mb sv s) (hs : St T W W') (hd : ∀ k, Ft rb mb sv k → ¬ T k) : Cl B W' rb mb sv s := by
  have lt := fun {k : Nat} {o : Obj} (h : W.heap[k]? = some o) => (Array.getElem?_eq_some_iff.1 h).1
  refine ⟨(hs.block rb (lt h.box) (hd _ (.inl rfl))).trans h.box, ?_, ?_, h.ok, h.small, h.low⟩
  · exact own_later h.row fun g cur hg hb => (hs.block g (lt hb) (hd _ (.inr (.inr hg)))).trans hb
  · obtain ⟨D, ⟨es, clock, hb, q⟩, hH⟩ := h.map
    exact ⟨D, ⟨es, clock, (hs.block mb (lt hb) (hd _ (.inr (.inl rfl)))).trans hb, q⟩, hH⟩
theorem Cl.later (h : Cl B W rb mb sv s) (hb : Below W.heap.size W W') : Cl B W' rb mb sv s := h.kept (T := fun _ => False) (St.of_below hb) (fun _ _ q => q)
theorem Cl.lt (h : Cl B W rb mb sv s) (k : Nat) (hk : Ft rb mb sv k) : B ≤ k ∧ k < W.heap.size := by
  have lt := fun {k : Nat} {o : Obj} (h : W.heap[k]? = some o) => (Array.getElem?_eq_some_iff.1 h).1
  rcases hk with rfl | rfl | hk
  · exact ⟨h.low.1, lt h.box⟩
  · obtain ⟨D, hD, _⟩ := h.map; exact ⟨h.low.2, hD.lt⟩
  · exact h.row.lt k hk
theorem Cl.base (h : Cl B W rb mb sv s) : B ≤ W.heap.size := by have := h.lt rb (.inl rfl); omega
theorem Cl.c0 (h : Cl B W rb mb sv s) : W.cell? ⟨rb, 0, none⟩ = some (.int .i64 s.comp) := cell_blk h.box rfl
theorem Cl.c1 (h : Cl B W rb mb sv s) : W.cell? ⟨rb, 1, none⟩ = some (.int .i64 (s.w : Int)) := cell_blk h.box rfl
theorem Cl.c2 (h : Cl B W rb mb sv s) : W.cell? ⟨rb, 2, none⟩ = some sv := cell_blk h.box rfl
theorem Cl.c3 (h : Cl B W rb mb sv s) : W.cell? ⟨rb, 3, none⟩ = some (.map (some mb)) := cell_blk h.box rfl
theorem Cl.ne_rm (h : Cl B W rb mb sv s) : rb ≠ mb := fun e => by
  have h1 := h.box
  obtain ⟨D, ⟨es, cl, hb, _⟩, _⟩ := h.map
  rw [e, hb] at h1
  simp at h1
theorem Cl.ne_f (h : Cl B W rb mb sv s) (k : Nat) (hk : sv.ownBlock = some k) : k ≠ rb ∧ k ≠ mb := by
  rcases h.row.2 with ⟨h1, _⟩ | ⟨g, cap, cur, h1, h2, h3, h4⟩
  · rw [h1] at hk; simp [Value.ownBlock] at hk
  · rw [h1] at hk
    have e : g = k := by simpa [Value.ownBlock] using hk
    subst e
    refine ⟨fun e => ?_, fun e => ?_⟩
    · rw [e, h.box] at h3; simp at h3
    · obtain ⟨D, ⟨es, cl, hb, _⟩, _⟩ := h.map
      rw [e, hb] at h3; simp at h3
/-- Where the cells lie. -/
theorem Cl.cells (h : Cl B W rb mb sv s) (h0 : 0 < s.rows.length) : ∃ g cap cur, sv = .slice (some ⟨g, 0, none⟩) (s.rows.length * s.w) cap ∧ B ≤ g ∧ W.heap[g]? = some (.cells cur 3 (0, 0)) ∧ s.rows.length * s.w ≤ cap ∧ cap ≤ maxLen ∧ cur.size = cap ∧ cur.toList.take (s.rows.length * s.w) = flat s.w s.rows := by
  have hp : 0 < s.rows.length * s.w := Nat.mul_pos h0 h.ok.w0
  rcases h.row.2 with ⟨_, h2⟩ | ⟨g, cap, cur, h1, h2, h3, h4, h5, h6, h7⟩
  · omega
  · exact ⟨g, cap, cur, h1, h2, h3, h4, h5, by simpa using h6, by simpa using h7⟩
end
theorem len_map {W : World} {mb t : Nat} {D : DataW Unit} (hD : W.ownsMap Tryd.prog 3 (plainElem Tryd.prog 3) mb t D) (n : Nat) (hn : Maps.size D = n) (ty : TypeId) :
    (Builtin.len_ #[66] ty #[.map (some mb)]).run Tryd.prog W = .ok (.int .i64 (n : Int)) W := by
  rw [← hn]; exact hD.len Tryd.underlying66 ty
set_option maxHeartbeats 800000 in
theorem len_any {B : Nat} {W : World} {rb mb : Nat} {sv : Value} {s : CS} (h : Cl B W rb mb sv s) :
    Calls Tryd.prog 20 #[.pointer (some ⟨rb, 0, none⟩)] W fun e W' => e = .returned (.int .i64 (s.rows.length : Int)) ∧ W' = W := by
  have c3 := h.c3
  obtain ⟨D, hD, hH⟩ := h.map
  have hl := len_map hD s.rows.length hH.2
  clear hD hH h
  go_enter Tryd.func20, Tryd.ntmps20
  go_wp2
  go_ret
  exact ⟨rfl, rfl⟩
set_option maxHeartbeats 400000 in
theorem len_nil (W : World) : Calls Tryd.prog 20 #[.pointer none] W fun e W' => e = .returned (.int .i64 0) ∧ W' = W := by
  go_enter Tryd.func20, Tryd.ntmps20
  go_wp2
  go_ret
  exact ⟨rfl, rfl⟩
set_option maxHeartbeats 1600000 in
set_option maxRecDepth 100000 in
/-- The cells of a row: o of them lie ahead of it. -/
theorem crow_any {W : World} {rb g n w L cap o : Nat} (c1 : W.cell? ⟨rb, 1, none⟩ = some (.int .i64 (w : Int))) (c2 : W.cell? ⟨rb, 2, none⟩ = some (.slice (some ⟨g, 0, none⟩) L cap)) (ho : n * w = o) (hL : o + w ≤ L) (hc : L ≤ cap) (hL4 : L ≤ 4000) (hw0 : 1 ≤ w) (hw : w ≤ 4) (hn : n ≤ 1000) :
    Calls Tryd.prog 32 #[.pointer (some ⟨rb, 0, none⟩), .int .i64 (n : Int)] W fun e W' => e = .returned (.slice (some ⟨g, o, none⟩) w (cap - o)) ∧ ∃ m, W' = W.drewN m := by
  have e1 : (n : Int) * (w : Int) = (o : Int) := by rw [← ho]; simp
  have e2 : ((n : Int) + 1) * (w : Int) = ((o + w : Nat) : Int) := by rw [Int.add_mul, e1]; simp
  have b1 : (n : Int) ≤ 1000 := by omega
  have b2 : (o : Int) ≤ 4000 := by omega
  have b3 : ((o + w : Nat) : Int) ≤ (L : Int) := by omega
  have b4 : (L : Int) ≤ (cap : Int) := by omega
  have b5 : (o : Int) ≤ ((o + w : Nat) : Int) := by omega
  have b6 : ((o + w : Nat) : Int) ≤ 4000 := by omega
  have b7 : ((o + w : Nat) : Int) ≤ (cap : Int) := by omega
  have b8 : ¬ (cap = o) := by omega
  have E : Hid (o + w - o = w) := by show o + w - o = w; omega
  clear ho
  go_enter Tryd.func32, Tryd.ntmps32
  go_wp2_with fail
  go_quiet (fail)
  go_wp2
  go_ret
  exact ⟨by rw [E.out]; rfl, _, rfl⟩
end Go.Proofs.YtpglanlpnapddaaDoor
