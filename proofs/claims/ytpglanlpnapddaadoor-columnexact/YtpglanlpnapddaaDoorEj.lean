/- ColumnExact: both columns, apart in memory, and the round's blocks beside them. -/
import Derived.Test.YtpglanlpnapddaaDoorEi
namespace Go.Proofs.YtpglanlpnapddaaDoor
open Go.RowKit Go.Shelf Go.Maps
theorem Col.lower {B B' : Nat} {W : World} {rb : Nat} {s : CS} {S : Nat → Prop} (h : Col B W rb s S) (hB : B' ≤ B) : Col B' W rb s S := by
  obtain ⟨mb, sv, h1, h2⟩ := h
  refine ⟨mb, sv, ⟨h1.box, ⟨h1.row.1, ?_⟩, h1.map, h1.ok, h1.small, by have := h1.low; omega, by have := h1.low; omega⟩, h2⟩
  rcases h1.row.2 with q | ⟨g, cap, cur, q1, q2, q3⟩
  · exact .inl q
  · exact .inr ⟨g, cap, cur, q1, by omega, q3⟩
structure Ex (w : World) (rb ub : Nat) (s1 s2 : CS) (S U : Nat → Prop) (wr : World) : Prop where
  col : Col w.heap.size wr rb s1 S
  ref : Rer w.heap.size wr ub s2 U
  dis : ∀ x, S x → ¬ U x
  bel : Below w.heap.size w wr
section
variable {w wr w' : World} {rb ub : Nat} {s1 s2 : CS} {S U : Nat → Prop}
theorem Ex.later (h : Ex w rb ub s1 s2 S U wr) (hb : Below wr.heap.size wr w') : Ex w rb ub s1 s2 S U w' :=
  ⟨h.col.later hb, h.ref.later hb, h.dis, h.bel.trans (hb.mono h.bel.size)⟩
theorem Ex.put {b : Nat} (h : Ex w rb ub s1 s2 S U wr) (hs : St (fun k => k = b) wr w') (hb : w.heap.size ≤ b) (hn : ¬ S b ∧ ¬ U b) : Ex w rb ub s1 s2 S U w' :=
  ⟨h.col.kept hs fun k hk e => hn.1 (e ▸ hk), h.ref.kept hs fun k hk e => hn.2 (e ▸ hk), h.dis, h.bel.trans (hs.below (fun k hk => by rw [hk]; exact hb) h.bel.size)⟩
theorem Ex.colT {s1' : CS} {S' : Nat → Prop} (h : Ex w rb ub s1 s2 S U wr) (hs : St S wr w') (hc : Col w.heap.size w' rb s1' S') (hf : ∀ x, S' x → S x ∨ wr.heap.size ≤ x) : Ex w rb ub s1' s2 S' U w' :=
  ⟨hc, h.ref.kept hs fun k hk e => h.dis k e hk, fun x hx hu => by
    rcases hf x hx with e | e
    · exact h.dis x e hu
    · have := (h.ref.lt x hu).2; omega, h.bel.trans (h.col.below hs)⟩
theorem Ex.refT {s2' : CS} {U' : Nat → Prop} (h : Ex w rb ub s1 s2 S U wr) (hs : St U wr w') (hc : Rer w.heap.size w' ub s2' U') (hf : ∀ x, U' x → U x ∨ wr.heap.size ≤ x) : Ex w rb ub s1 s2' S U' w' :=
  ⟨h.col.kept hs fun k hk e => h.dis k hk e, hc, fun x hx hu => by
    rcases hf x hu with e | e
    · exact h.dis x hx e
    · have := (h.col.lt x hx).2; omega, h.bel.trans (h.ref.below hs)⟩
end
structure Rd (w : World) (rb ub : Nat) (s1 s2 : CS) (S U : Nat → Prop) (bx ba bb : Nat) (x : ActI) (ca : Int) (pa : Pt) (cb : Int) (pb : Pt) (wr : World) : Prop where
  ex : Ex w rb ub s1 s2 S U wr
  hx : wr.heap[bx]? = some (.cells x.arr 36 (0, 0))
  ha : wr.heap[ba]? = some (.cells (pa.arr ca) 34 (0, 0))
  hb : wr.heap[bb]? = some (.cells (pb.arr cb) 34 (0, 0))
  nx : ¬ S bx ∧ ¬ U bx
  na : ¬ S ba ∧ ¬ U ba
  nb : ¬ S bb ∧ ¬ U bb
  la : w.heap.size ≤ ba
  lb : w.heap.size ≤ bb
  xa : bx ≠ ba
  xb : bx ≠ bb
  ab : ba ≠ bb
section
variable {w wr w' : World} {rb ub : Nat} {s1 s2 : CS} {S U : Nat → Prop} {bx ba bb : Nat} {x : ActI} {ca cb : Int} {pa pb : Pt}
theorem Rd.later (h : Rd w rb ub s1 s2 S U bx ba bb x ca pa cb pb wr) (hb : Below wr.heap.size wr w') : Rd w rb ub s1 s2 S U bx ba bb x ca pa cb pb w' :=
  ⟨h.ex.later hb, blk_seen hb (Nat.le_refl _) h.hx, blk_seen hb (Nat.le_refl _) h.ha, blk_seen hb (Nat.le_refl _) h.hb, h.nx, h.na, h.nb, h.la, h.lb, h.xa, h.xb, h.ab⟩
theorem out_new {S S' : Nat → Prop} {k : Nat} {o : Obj} (hk : wr.heap[k]? = some o) (hn : ¬ S k) (hf : ∀ x, S' x → S x ∨ wr.heap.size ≤ x) : ¬ S' k := fun e => by
  rcases hf k e with q | q
  · exact hn q
  · have := (Array.getElem?_eq_some_iff.1 hk).1; omega
theorem Rd.colT {s1' : CS} {S' : Nat → Prop} (h : Rd w rb ub s1 s2 S U bx ba bb x ca pa cb pb wr) (hs : St S wr w') (hc : Col w.heap.size w' rb s1' S') (hf : ∀ x, S' x → S x ∨ wr.heap.size ≤ x) : Rd w rb ub s1' s2 S' U bx ba bb x ca pa cb pb w' :=
  ⟨h.ex.colT hs hc hf, hs.at h.hx h.nx.1, hs.at h.ha h.na.1, hs.at h.hb h.nb.1, ⟨out_new h.hx h.nx.1 hf, h.nx.2⟩, ⟨out_new h.ha h.na.1 hf, h.na.2⟩, ⟨out_new h.hb h.nb.1 hf, h.nb.2⟩, h.la, h.lb, h.xa, h.xb, h.ab⟩
theorem Rd.refT {s2' : CS} {U' : Nat → Prop} (h : Rd w rb ub s1 s2 S U bx ba bb x ca pa cb pb wr) (hs : St U wr w') (hc : Rer w.heap.size w' ub s2' U') (hf : ∀ x, U' x → U x ∨ wr.heap.size ≤ x) : Rd w rb ub s1 s2' S U' bx ba bb x ca pa cb pb w' :=
  ⟨h.ex.refT hs hc hf, hs.at h.hx h.nx.2, hs.at h.ha h.na.2, hs.at h.hb h.nb.2, ⟨h.nx.1, out_new h.hx h.nx.2 hf⟩, ⟨h.na.1, out_new h.ha h.na.2 hf⟩, ⟨h.nb.1, out_new h.hb h.nb.2 hf⟩, h.la, h.lb, h.xa, h.xb, h.ab⟩
theorem Rd.putA (h : Rd w rb ub s1 s2 S U bx ba bb x ca pa cb pb wr) (qc : Int) (q : Pt) : Rd w rb ub s1 s2 S U bx ba bb x qc q cb pb (put6 wr ba qc q) :=
  have st := put6_st wr ba qc q
  ⟨h.ex.put st h.la h.na, st.at h.hx h.xa, put6_blk h.ha rfl qc q, st.at h.hb fun e => h.ab e.symm, h.nx, h.na, h.nb, h.la, h.lb, h.xa, h.xb, h.ab⟩
theorem Rd.putB (h : Rd w rb ub s1 s2 S U bx ba bb x ca pa cb pb wr) (qc : Int) (q : Pt) : Rd w rb ub s1 s2 S U bx ba bb x ca pa qc q (put6 wr bb qc q) :=
  have st := put6_st wr bb qc q
  ⟨h.ex.put st h.lb h.nb, st.at h.hx h.xb, st.at h.ha h.ab, put6_blk h.hb rfl qc q, h.nx, h.na, h.nb, h.la, h.lb, h.xa, h.xb, h.ab⟩
theorem Ex.round (h : Ex w rb ub s1 s2 S U wr) (x : ActI) : Rd w rb ub s1 s2 S U wr.heap.size (wr.heap.size + 1) (wr.heap.size + 2) x 0 Pt.zero 0 Pt.zero (((wr.alloc (.cells x.arr 36)).alloc (.cells (Pt.zero.arr 0) 34)).alloc (.cells (Pt.zero.arr 0) 34)) := by
  have b1 := bAl wr (.cells x.arr 36)
  have b2 := bAl (wr.alloc (.cells x.arr 36)) (.cells (Pt.zero.arr 0) 34)
  have b3 := bAl ((wr.alloc (.cells x.arr 36)).alloc (.cells (Pt.zero.arr 0) 34)) (.cells (Pt.zero.arr 0) 34)
  have z1 : (wr.alloc (.cells x.arr 36)).heap.size = wr.heap.size + 1 := World.size_alloc _ _
  have z2 : ((wr.alloc (.cells x.arr 36)).alloc (.cells (Pt.zero.arr 0) 34)).heap.size = wr.heap.size + 2 := by rw [World.size_alloc, z1]
  have n1 := heap_alloc_new wr (.cells x.arr 36)
  have n2 := heap_alloc_new (wr.alloc (.cells x.arr 36)) (.cells (Pt.zero.arr 0) 34)
  have n3 := heap_alloc_new ((wr.alloc (.cells x.arr 36)).alloc (.cells (Pt.zero.arr 0) 34)) (.cells (Pt.zero.arr 0) 34)
  rw [z1] at n2
  rw [z2] at n3
  have hw := h.bel.size
  refine ⟨((h.later b1).later b2).later b3, blk_seen b3 (Nat.le_refl _) (blk_seen b2 (Nat.le_refl _) n1), blk_seen b3 (Nat.le_refl _) n2, n3, ⟨fun e => ?_, fun e => ?_⟩, ⟨fun e => ?_, fun e => ?_⟩, ⟨fun e => ?_, fun e => ?_⟩, by omega, by omega, by omega, by omega, by omega⟩
  · have := (h.col.lt _ e).2; omega
  · have := (h.ref.lt _ e).2; omega
  · have := (h.col.lt _ e).2; omega
  · have := (h.ref.lt _ e).2; omega
  · have := (h.col.lt _ e).2; omega
  · have := (h.ref.lt _ e).2; omega
end
/-- The cells of the call that is played. -/
structure Told (W : World) (b : Nat) (x : ActI) : Prop where
  c0 : W.cell? ⟨b, 0, none⟩ = some (.int .i64 x.kind)
  c1 : W.cell? ⟨b, 1, none⟩ = some (.int .i64 x.n)
  c2 : W.cell? ⟨b, 2, none⟩ = some (.int .i64 x.cm)
  c3 : W.cell? ⟨b, 3, none⟩ = some (.int .i64 x.p.a)
  c4 : W.cell? ⟨b, 4, none⟩ = some (.int .i64 x.p.b)
  c5 : W.cell? ⟨b, 5, none⟩ = some (.int .i64 x.p.c)
  c6 : W.cell? ⟨b, 6, none⟩ = some (.int .i64 x.p.d)
  c7 : W.cell? ⟨b, 7, none⟩ = some (.int .i64 x.p.t)
  c8 : W.cell? ⟨b, 8, none⟩ = some (.int .i64 x.cell)
  c9 : W.cell? ⟨b, 9, none⟩ = some (.int .i64 x.value)
theorem told {W : World} {b : Nat} {x : ActI} (h : W.heap[b]? = some (.cells x.arr 36 (0, 0))) : Told W b x :=
  ⟨cell_blk h rfl, cell_blk h rfl, cell_blk h rfl, cell_blk h rfl, cell_blk h rfl, cell_blk h rfl, cell_blk h rfl, cell_blk h rfl, cell_blk h rfl, cell_blk h rfl⟩
set_option maxHeartbeats 1600000 in
set_option maxRecDepth 100000 in
theorem exact_out (w : World) (Ad : Nat → Addr) (hE : Env w Ad) (c wd : Int) (v : Value) (hb : c < 0 ∨ 15 < c ∨ wd < 1 ∨ 4 < wd) :
    Calls Tryd.prog 3 #[.int .i64 c, .int .i64 wd, v] w fun e w' => e = .returned (.bool true) ∧ Below w.heap.size w w' := by
  have AW := hid (awake_any w Ad hE.three)
  have E0 := hid hE
  have RB := hid (fun W => rnew_bad W c wd hb)
  have NB : Hid (∀ W, Env3 W Ad → Calls Tryd.prog 8 #[.int .i64 c, .int .i64 wd] W fun e W' => ∃ v, e = .returned (.tuple #[.pointer none, v]) ∧ Err Ad W' v 1 1 ∧ Below W.heap.size W W') := by
    intro W h
    by_cases h1 : c < 0 ∨ 16 ≤ c
    · exact new_comp Ad W h c wd h1
    · exact new_width Ad W h c wd (by omega) (by omega) (by omega)
  clear hE hb
  go_enter Tryd.func3, Tryd.ntmps3
  go_wp2_with fail
  refine AW.out.mono ?_
  rintro e w1 ⟨rfl, b1⟩
  have E1 := hid (E0.out.later b1)
  have B1 := hid b1
  have NC := hid (NB.out w1 E1.out.three)
  clear AW b1
  go_wp2_with fail
  refine NC.out.mono ?_
  rintro e w2 ⟨v2, rfl, h2, b2⟩
  obtain ⟨t, q, rfl⟩ := h2.shape
  have B2 := hid (B1.out.trans (b2.mono B1.out.size))
  have E2 := hid (E1.out.later b2)
  have IS := hid (is_err Ad (k := 1) E2.out.three h2 (by decide) (by decide))
  have e1 := E2.out.three.c1
  clear NC b2 h2
  go_wp2_with fail
  refine (RB.out _).mono ?_
  rintro e w3 ⟨rfl, rfl⟩
  go_wp2_with fail
  refine IS.out.mono ?_
  rintro e w4 ⟨rfl, b4⟩
  have B4 := hid (B2.out.trans (b4.mono B2.out.size))
  clear IS b4 e1
  go_wp2_with fail
  go_ret
  exact ⟨rfl, B4.out⟩
end Go.Proofs.YtpglanlpnapddaaDoor
