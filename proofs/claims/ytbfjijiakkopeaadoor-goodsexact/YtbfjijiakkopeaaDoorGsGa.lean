/- Goods in memory: the places of the names, the numbers, how often one was set. -/
import Derived.Test.YtbfjijiakkopeaaDoorScSe
import Derived.Laws.OwnMore
import Derived.Deep.RegionHeld3
import Derived.Deep.RegionLaw
import Derived.Deep.RegionHeldLaw
import Derived.Deep.AppendLies
import Derived.Deep.QuietTactic
import Derived.BigQuiet
import Derived.Deep.Cut
import Derived.Deep.LoopGhost
import Derived.Deep.RegionWith
namespace Go.Proofs.YtbfjijiakkopeaaDoor.Gs
open Go.RowKit Go.Shelf Go.Maps
open Go.Proofs.YtbfjijiakkopeaaDoor.Sc (litS keyed9 memB memB_iff Rsc RscRow Cmp CmpRow)
/-- Outside S all lies as it lay. -/
structure St (S : Nat → Prop) (W W' : World) : Prop where
  os : W'.os = W.os
  tape : W'.tape = W.tape
  output : W'.output = W.output
  size : W.heap.size ≤ W'.heap.size
  block : ∀ k, k < W.heap.size → ¬ S k → W'.heap[k]? = W.heap[k]?
theorem St.refl (S : Nat → Prop) (W : World) : St S W W := ⟨rfl, rfl, rfl, Nat.le_refl _, fun _ _ _ => rfl⟩
theorem St.trans {S T : Nat → Prop} {a b c : World} (h : St S a b) (k : St T b c) (hs : ∀ x, x < a.heap.size → T x → S x) : St S a c :=
  ⟨k.os.trans h.os, k.tape.trans h.tape, k.output.trans h.output, Nat.le_trans h.size k.size, fun x hx hn => (k.block x (Nat.lt_of_lt_of_le hx h.size) (fun q => hn (hs x hx q))).trans (h.block x hx hn)⟩
theorem St.of_below {S : Nat → Prop} {a b : World} (h : Below a.heap.size a b) : St S a b := ⟨h.os, h.tape, h.output, h.size, fun k hk _ => h.block k hk⟩
theorem St.of_grown {S : Nat → Prop} {a b : World} {row : Option Nat} (h : a.grownBy b row) (hS : ∀ k, row = some k → S k) : St S a b :=
  ⟨h.os, h.tape, h.output, h.size, fun k hk hn => h.block k hk (fun e => hn (hS k e.symm))⟩
theorem St.below {S : Nat → Prop} {a b : World} {B : Nat} (h : St S a b) (hS : ∀ k, S k → B ≤ k) (hB : B ≤ a.heap.size) : Below B a b :=
  ⟨h.os, h.tape, h.output, h.size, fun k hk => h.block k (by omega) (fun q => by have := hS k q; omega)⟩
theorem St.setCell {S : Nat → Prop} {a : World} {p : Addr} (v : Value) (hp : S p.block) : St S a (a.setCell p v) :=
  ⟨rfl, rfl, rfl, by simp, fun k _ hn => Below.heap_setCell _ _ _ _ (fun e => hn (e ▸ hp))⟩
theorem St.at {S : Nat → Prop} {W W' : World} {b : Nat} {o : Obj} (hs : St S W W') (h : W.heap[b]? = some o) (hn : ¬ S b) : W'.heap[b]? = some o := (hs.block b (Array.getElem?_eq_some_iff.1 h).1 hn).trans h
theorem bAl (W : World) (o : Obj) : Below W.heap.size W (W.alloc o) := (Below.refl _ _).alloc (Nat.le_refl _) _
theorem cell_blk {W : World} {b j : Nat} {cs : Array Value} {e : TypeId} {u : Value} (h : W.heap[b]? = some (.cells cs e (0, 0))) (hj : cs[j]? = some u) : W.cell? ⟨b, j, none⟩ = some u := by
  rw [cell_of_row _ _ j _ e (0, 0) h]; exact hj
theorem blk_free {W : World} {b : Nat} {cs : Array Value} {e : TypeId} (h : W.heap[b]? = some (.cells cs e (0, 0))) (j : Nat) : W.frozen? ⟨b, j, none⟩ = false := by
  unfold World.frozen?
  rw [show (⟨b, j, none⟩ : Addr).block = b from rfl, h]
  simp
theorem blk_seen {W W' : World} {B b : Nat} {o : Obj} (hb : Below B W W') (hB : W.heap.size ≤ B) (h : W.heap[b]? = some o) : W'.heap[b]? = some o := (hb.block b (Nat.lt_of_lt_of_le (Array.getElem?_eq_some_iff.1 h).1 hB)).trans h
theorem seen {B : Nat} {W W' : World} (hb : Below B W W') (hB : W.heap.size ≤ B) {p : Addr} {u : Value} (h : W.cell? p = some u) : W'.cell? p = some u := (hb.cell (p := p) (Nat.lt_of_lt_of_le (World.block_lt_of_cell? W p h) hB)).trans h
def I64 (i : Int) : Prop := (Lit.int .i64 i).wf = true
theorem I64_small {n : Int} (h0 : 0 ≤ n) (h1 : n ≤ 1000000) : I64 n := by
  unfold I64 Lit.wf
  simp [IntKind.min, IntKind.max, IntKind.signed, IntKind.bits]
  omega
theorem zero3 (w : World) : (zeroValue 3).run Tryd.prog w = .ok (.int .i64 0) w := by kernel_rfl
theorem litS_inj {s t : ByteArray} (h : litS s = litS t) : s = t := by
  unfold litS at h
  simp at h
  exact ByteArray.ext h
theorem litS_ok (s : ByteArray) : WideAt.IsKeyLit (litS s) := trivial
theorem key_str (s : ByteArray) (h : s.size ≤ maxLen) : keyOf Tryd.prog 9 (.string s) = some (litS s) := WideMaps.keyOf_string_mk Tryd.underlying9 h
/-- The place of a name. -/
def pl (ns : List ByteArray) (s : ByteArray) : Int := if memB ns s then (ns.findIdx (fun x => x.data.toList == s.data.toList) : Int) else 0
theorem memB_lt (ns : List ByteArray) (s : ByteArray) : ns.findIdx (fun x => x.data.toList == s.data.toList) < ns.length ↔ memB ns s = true := by
  rw [List.findIdx_lt_length]
  unfold memB
  rw [List.any_eq_true]
theorem memB_snoc (ns : List ByteArray) (s u : ByteArray) : memB (ns ++ [s]) u = (memB ns u || s.data.toList == u.data.toList) := by
  unfold memB
  rw [List.any_append]
  simp
theorem same_bytes {s u : ByteArray} (h : (s.data.toList == u.data.toList) = true) : s = u := ByteArray.ext (Array.toList_inj.1 (by simpa using h))
/-- What the map of the places says. -/
def Holds (D : DataW Unit) (ns : List ByteArray) : Prop := (∀ s, Maps.has D (litS s) = memB ns s ∧ D.atKey (litS s) (.lit (.int .i64 0)) = .lit (.int .i64 (pl ns s))) ∧ Maps.size D = ns.length
def Mn (W : World) (mb : Nat) (ns : List ByteArray) : Prop := ∃ D, W.ownsMap Tryd.prog 9 (plainElem Tryd.prog 3) mb (Maps.size D) D ∧ Holds D ns
theorem own_size {k : TypeId} {R : Value → Option (DataW Unit × List MemPlace)} {W : World} {mb n : Nat} {D : DataW Unit} (h : W.ownsMap Tryd.prog k R mb n D) : W.ownsMap Tryd.prog k R mb (Maps.size D) D := by
  obtain ⟨es, clock, hb, F, _, rfl⟩ := h
  exact ⟨es, clock, hb, F, by simp [Maps.size, length_sorted], rfl⟩
theorem turned_st {W W' : World} {mb : Nat} (h : W.mapTurned W' mb) : St (fun k => k = mb) W W' := St.of_grown h.grown fun k e => by simpa using e.symm
section
variable {W W' : World} {mb : Nat} {ns : List ByteArray} {t e : TypeId}
theorem Mn.lt (h : Mn W mb ns) : mb < W.heap.size := by obtain ⟨D, h1, -⟩ := h; exact h1.lt
theorem Mn.kept {T : Nat → Prop} (h : Mn W mb ns) (hs : St T W W') (hn : ¬ T mb) : Mn W' mb ns := by
  obtain ⟨D, ⟨es, cl, hb, q⟩, h2⟩ := h
  exact ⟨D, ⟨es, cl, hs.at hb hn, q⟩, h2⟩
theorem Mn.obj (h : Mn W mb ns) : ∃ es cl, W.heap[mb]? = some (.map es cl) := by
  obtain ⟨D, ⟨es, cl, hb, q⟩, h2⟩ := h
  exact ⟨es, cl, hb⟩
theorem mn_made (W : World) : Mn (W.alloc (.map #[] 0)) W.heap.size [] :=
  ⟨.map [], World.ownsMap_made W Tryd.prog 9 (plainElem Tryd.prog 3), fun _ => ⟨rfl, rfl⟩, rfl⟩
theorem Mn.look (h : Mn W mb ns) (ht : Tryd.prog.underlying t = some (.map 9 3)) (s : ByteArray) (hs : s.size ≤ maxLen) :
    (Instr.lookup t (.map (some mb)) (.string s) true).run Tryd.prog W = .ok (.tuple #[.int .i64 (pl ns s), .bool (memB ns s)]) W := by
  obtain ⟨D, h1, hH⟩ := h
  obtain ⟨v, ps, hr, hv⟩ := h1.look_ok keyed9 ht (zero3 W) (plainElem_int Tryd.underlying3 (show (Lit.int .i64 0).wf = true by decide)) (key_str s hs)
  obtain ⟨a, rfl, e2, -⟩ := plainElem_int_inv Tryd.underlying3 hv
  rw [(hH.1 s).2] at e2
  simp only [Prod.mk.injEq, DataW.lit.injEq, Lit.int.injEq, true_and] at e2
  rw [hr, (hH.1 s).1, e2.1]
theorem pl_snoc (ns : List ByteArray) (s u : ByteArray) (hs : memB ns s = false) : pl (ns ++ [s]) u = if s.data.toList == u.data.toList then (ns.length : Int) else pl ns u := by
  unfold pl
  rw [memB_snoc, List.findIdx_append]
  by_cases q : (s.data.toList == u.data.toList) = true
  · obtain rfl := same_bytes q
    have : ¬ ns.findIdx (fun x => x.data.toList == s.data.toList) < ns.length := fun h => by rw [(memB_lt ns s).1 h] at hs; cases hs
    rw [if_neg this]
    simp
  · have q' : (s.data.toList == u.data.toList) = false := by simpa using q
    rw [q', Bool.or_false]
    cases m : memB ns u with
    | false => simp
    | true => rw [if_pos ((memB_lt ns u).2 m)]; simp
theorem Mn.store {s : ByteArray} (h : Mn W mb ns) (hn : memB ns s = false) (hl : ns.length ≤ 1000) (hs : s.size ≤ maxLen) (ht : Tryd.prog.underlying t = some (.map 9 e)) :
    ∃ w', (Instr.mapUpdate t (.map (some mb)) (.string s) (.int .i64 (ns.length : Int))).run Tryd.prog W = .ok () w' ∧ Mn w' mb (ns ++ [s]) ∧ St (fun k => k = mb) W w' := by
  obtain ⟨D, h1, hH⟩ := h
  obtain ⟨w', hr, h2, h3⟩ := h1.store keyed9 ht (by unfold maxLen; rw [hH.2]; omega) (key_str s hs) (plainElem_int Tryd.underlying3 (I64_small (n := (ns.length : Int)) (by omega) (by omega)))
  have hD := h1.tidy keyed9
  refine ⟨w', hr, ⟨_, own_size h2, fun u => ?_, ?_⟩, turned_st h3⟩
  · rw [pl_snoc ns s u hn, memB_snoc]
    by_cases q : (s.data.toList == u.data.toList) = true
    · obtain rfl := same_bytes q
      rw [if_pos q, q, Bool.or_true]
      exact ⟨Maps.has_put_same hD.isMap (litS_ok _) _, Maps.atKey_put_same hD.isMap (litS_ok _) _ _⟩
    · have q' : litS u ≠ litS s := fun e => q (by rw [litS_inj e]; simp)
      have q2 : (s.data.toList == u.data.toList) = false := by simpa using q
      rw [if_neg q, Maps.has_put_other q', Maps.atKey_put_other q', q2, Bool.or_false]
      exact hH.1 u
  · rw [Maps.size_put hD, (hH.1 s).1, hH.2, hn]
    simp
end
/-- A number, as a value. -/
def gz (x : Int) : Value := .int .i64 x
/-- Goods in memory. -/
structure Gd (B : Nat) (W : World) (gb mb : Nat) (v : Value) (ns : List ByteArray) (l : List Int) (n : Nat) : Prop where
  box : W.heap[gb]? = some (.cells #[.map (some mb), v, .int .i64 (n : Int)] 69 (0, 0))
  map : Mn W mb ns
  row : W.ownsRow B 3 1 v l.length (l.map gz)
  low : B ≤ gb ∧ B ≤ mb
  few : l.length ≤ 8
/-- The blocks that a change turns. -/
def Ft (gb : Nat) (v : Value) (k : Nat) : Prop := k = gb ∨ v.ownBlock = some k
/-- All blocks of goods. -/
def Fz (gb mb : Nat) (v : Value) (k : Nat) : Prop := k = gb ∨ k = mb ∨ v.ownBlock = some k
theorem Ft.all {gb mb k : Nat} {v : Value} (h : Ft gb v k) : Fz gb mb v k := by
  rcases h with h | h
  · exact .inl h
  · exact .inr (.inr h)
section
variable {B : Nat} {W W' : World} {gb mb : Nat} {v : Value} {ns : List ByteArray} {l : List Int} {n : Nat}
theorem Gd.row_at (h : Gd B W gb mb v ns l n) {k : Nat} (hk : v.ownBlock = some k) : ∃ cur, W.heap[k]? = some (.cells cur 3 (0, 0)) := by
  rcases h.row.2 with ⟨h1, -⟩ | ⟨g, cap, cur, h1, h2, h3, -⟩
  · rw [h1] at hk; cases hk
  · rw [h1] at hk
    obtain rfl : g = k := by simpa [Value.ownBlock] using hk
    exact ⟨cur, h3⟩
theorem Gd.ne_row (h : Gd B W gb mb v ns l n) {k : Nat} (hk : v.ownBlock = some k) : k ≠ gb ∧ k ≠ mb := by
  obtain ⟨cur, hc⟩ := h.row_at hk
  constructor
  · rintro rfl
    rw [h.box] at hc
    simp at hc
  · rintro rfl
    obtain ⟨es, cl, q⟩ := h.map.obj
    rw [q] at hc
    cases hc
theorem Gd.ne_map (h : Gd B W gb mb v ns l n) : gb ≠ mb := by
  rintro rfl
  obtain ⟨es, cl, q⟩ := h.map.obj
  have := h.box
  rw [q] at this
  cases this
theorem Gd.lt (h : Gd B W gb mb v ns l n) (k : Nat) (hk : Fz gb mb v k) : B ≤ k ∧ k < W.heap.size := by
  rcases hk with rfl | rfl | hk
  · exact ⟨h.low.1, (Array.getElem?_eq_some_iff.1 h.box).1⟩
  · exact ⟨h.low.2, h.map.lt⟩
  · exact h.row.lt k hk
theorem Gd.kept {T : Nat → Prop} (h : Gd B W gb mb v ns l n) (hs : St T W W') (hn : ∀ k, Fz gb mb v k → ¬ T k) : Gd B W' gb mb v ns l n :=
  ⟨hs.at h.box (hn _ (.inl rfl)), h.map.kept hs (hn _ (.inr (.inl rfl))), own_later h.row fun _ _ hk hb => hs.at hb (hn _ (.inr (.inr hk))), h.low, h.few⟩
theorem Gd.later (h : Gd B W gb mb v ns l n) (hb : Below W.heap.size W W') : Gd B W' gb mb v ns l n := h.kept (T := fun _ => False) (St.of_below hb) fun _ _ q => q
theorem Gd.c0 (h : Gd B W gb mb v ns l n) : W.cell? ⟨gb, 0, none⟩ = some (.map (some mb)) := cell_blk h.box rfl
theorem Gd.c1 (h : Gd B W gb mb v ns l n) : W.cell? ⟨gb, 1, none⟩ = some v := cell_blk h.box rfl
theorem Gd.c2 (h : Gd B W gb mb v ns l n) : W.cell? ⟨gb, 2, none⟩ = some (.int .i64 (n : Int)) := cell_blk h.box rfl
theorem Gd.slice (h : Gd B W gb mb v ns l n) : ∃ a c, v = .slice a l.length c := own_slice h.row
theorem Gd.at (h : Gd B W gb mb v ns l n) {i : Nat} {x : Int} (hi : l[i]? = some x) : ∃ g c, v = .slice (some ⟨g, 0, none⟩) l.length c ∧ W.cell? ⟨g, i, none⟩ = some (.int .i64 x) ∧ W.frozen? ⟨g, i, none⟩ = false := by
  have hlt := (List.getElem?_eq_some_iff.1 hi).1
  obtain ⟨a, c, rfl⟩ := h.slice
  have hr := h.row
  obtain ⟨g, rfl, -⟩ := own_some hr (by omega)
  refine ⟨g, c, rfl, ?_, hr.frozenAt i⟩
  rw [hr.cellAt i (by omega), List.getElem?_map, hi]
  rfl
/-- A number set: the world behind it. -/
theorem Gd.set {g c i : Nat} {x : Int} (h : Gd B W gb mb (.slice (some ⟨g, 0, none⟩) l.length c) ns l n) :
    Gd B ((W.setCell ⟨g, i, none⟩ (.int .i64 x)).setCell ⟨gb, 2, none⟩ (.int .i64 ((n + 1 : Nat) : Int))) gb mb (.slice (some ⟨g, 0, none⟩) l.length c) ns (l.set i x) (n + 1) ∧ St (Ft gb (.slice (some ⟨g, 0, none⟩) l.length c)) W ((W.setCell ⟨g, i, none⟩ (.int .i64 x)).setCell ⟨gb, 2, none⟩ (.int .i64 ((n + 1 : Nat) : Int))) := by
  obtain ⟨r1, g1⟩ := h.row.stored i (.int .i64 x)
  have hne := (h.ne_row (k := g) rfl)
  have s1 : St (fun k => k = g) W (W.setCell ⟨g, i, none⟩ (.int .i64 x)) := St.setCell _ rfl
  have b1 := s1.at h.box hne.1.symm
  have m1 := h.map.kept s1 hne.2.symm
  have s2 : St (fun k => k = gb) (W.setCell ⟨g, i, none⟩ (.int .i64 x)) ((W.setCell ⟨g, i, none⟩ (.int .i64 x)).setCell ⟨gb, 2, none⟩ (.int .i64 ((n + 1 : Nat) : Int))) := St.setCell _ rfl
  have b2 := heap_setCell_same _ gb 2 _ _ (.int .i64 ((n + 1 : Nat) : Int)) b1
  have m2 := m1.kept s2 h.ne_map.symm
  have r2 := own_later r1 fun k _ hk hb => s2.at hb (by
    obtain rfl : g = k := by simpa [Value.ownBlock] using hk
    exact hne.1)
  refine ⟨⟨by simpa using b2, m2, ?_, h.low, by simpa using h.few⟩, ?_⟩
  · rw [List.map_set, List.length_set]
    exact r2
  · exact (St.setCell (S := Ft gb (.slice (some ⟨g, 0, none⟩) l.length c)) (a := W) (p := ⟨g, i, none⟩) (.int .i64 x) (.inr rfl)).trans s2 fun _ _ q => .inl q
end
end Go.Proofs.YtbfjijiakkopeaaDoor.Gs
