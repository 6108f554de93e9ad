/- RollExact: the roll, the document's roll, and what lies beside them. -/
import Derived.Test.YtdpoojopipcffaaDoorTd
import Derived.Test.YtdpoojopipcffaaDoorKh
namespace Go.Proofs.YtdpoojopipcffaaDoor
open Go.RowKit Go.Shelf Go.Maps
/-- The document's roll whose blocks are U. -/
def Rer (B : Nat) (W : World) (ub t : Nat) (r : RS) (U : Nat → Prop) : Prop := ∃ gb ib fv, Rr B W ub gb ib fv t r ∧ ∀ k, U k ↔ Fu ub gb ib fv k
section
variable {B : Nat} {W W' : World} {ub t : Nat} {r : RS} {U : Nat → Prop}
theorem Rer.kept {T : Nat → Prop} (h : Rer B W ub t r U) (hs : St T W W') (hd : ∀ k, U k → ¬ T k) : Rer B W' ub t r U := by
  obtain ⟨gb, ib, fv, h1, h2⟩ := h
  exact ⟨gb, ib, fv, h1.kept hs fun k hk => hd k ((h2 k).2 hk), h2⟩
theorem Rer.later (h : Rer B W ub t r U) (hb : Below W.heap.size W W') : Rer B W' ub t r U := h.kept (T := fun _ => False) (St.of_below hb) fun _ _ q => q
theorem Rer.lt (h : Rer B W ub t r U) (k : Nat) (hk : U k) : B ≤ k ∧ k < W.heap.size := by
  obtain ⟨gb, ib, fv, h1, h2⟩ := h
  exact h1.lt k ((h2 k).1 hk)
theorem Rer.base (h : Rer B W ub t r U) : B ≤ W.heap.size := by obtain ⟨gb, ib, fv, h1, h2⟩ := h; have := h1.lt ub (.inl rfl); omega
theorem Rer.below (h : Rer B W ub t r U) (hs : St U W W') : Below B W W' := hs.below (fun k hk => (h.lt k hk).1) h.base
theorem Rr.lower {B' gb ib : Nat} {fv : Value} (h : Rr B W ub gb ib fv t r) (hB : B' ≤ B) : Rr B' W ub gb ib fv t r := by
  refine ⟨h.box, h.gens, h.isb, ⟨h.free.1, ?_⟩, h.ok, h.small, h.old, ⟨by have := h.low; omega, by have := h.low; omega, by have := h.low; omega⟩, h.apart, h.nz⟩
  rcases h.free.2 with q | ⟨g, cap, cur, q1, q2, q3⟩
  · exact .inl q
  · exact .inr ⟨g, cap, cur, q1, by omega, q3⟩
theorem rer_new (W : World) (n : Nat) (hn : n ≤ 64) (hB : B ≤ W.heap.size) :
    Calls Tryd.prog 8 #[.int .i64 (n : Int)] W fun e W' => ∃ ub U, e = .returned (.pointer (some ⟨ub, 0, none⟩)) ∧ Rer B W' ub 0 (RS.fresh n) U ∧ (∀ x, U x → W.heap.size ≤ x) ∧ Below W.heap.size W W' := by
  refine (rnew_some W n hn).mono ?_
  rintro e w ⟨ub, gb, ib, fv, rfl, h, hb⟩
  exact ⟨ub, _, rfl, ⟨gb, ib, fv, h.lower hB, fun _ => Iff.rfl⟩, fun x hx => (h.lt x hx).1, hb⟩
theorem rer_full (h : Rer B W ub t r U) (hf : r.free = []) :
    Calls Tryd.prog 11 #[.pointer (some ⟨ub, 0, none⟩)] W fun e W' => e = .returned (.tuple #[.agg #[.int .i64 0, .int .i64 0], .int .i64 6]) ∧ Below W.heap.size W W' := by
  obtain ⟨gb, ib, fv, h1, h2⟩ := h
  exact rtake_full h1 hf
theorem rer_take {f : List Nat} {i : Nat} (h : Rer B W ub t r U) (hf : r.free = f ++ [i]) (ht : t ≤ 1000) :
    Calls Tryd.prog 11 #[.pointer (some ⟨ub, 0, none⟩)] W fun e W' => e = .returned (.tuple #[.agg #[.int .i64 i, .int .i64 ((r.gens.getD i 0 : Nat) + 1 : Int)], .int .i64 0]) ∧ Rer B W' ub (t + 1) (r.took i) U ∧ St U W W' := by
  obtain ⟨gb, ib, fv, h1, h2⟩ := h
  refine (rtake_some h1 hf ht).mono ?_
  rintro e w ⟨rfl, fv', h3, h4, h5⟩
  refine ⟨rfl, ⟨gb, ib, fv', h3, fun k => ?_⟩, ⟨h5.os, h5.tape, h5.output, h5.size, fun k hk hn => h5.block k hk fun q => hn ((h2 k).2 q)⟩⟩
  rw [h2 k]
  unfold Fu
  rw [h4]
theorem rer_dead (h : Rer B W ub t r U) (i g : Int) (ha : r.aliveB i g = false) :
    Calls Tryd.prog 14 #[.pointer (some ⟨ub, 0, none⟩), .agg #[.int .i64 i, .int .i64 g]] W fun e W' => e = .returned (.int .i64 17) ∧ Below W.heap.size W W' := by
  obtain ⟨gb, ib, fv, h1, h2⟩ := h
  exact rfree_dead h1 i g ha
theorem rer_free (h : Rer B W ub t r U) (k : Nat) (g : Int) (ha : r.aliveB (k : Int) g = true) :
    Calls Tryd.prog 14 #[.pointer (some ⟨ub, 0, none⟩), .agg #[.int .i64 (k : Int), .int .i64 g]] W fun e W' => e = .returned (.int .i64 0) ∧ ∃ U', Rer B W' ub t (r.freed k) U' ∧ St U W W' ∧ ∀ x, U' x → U x ∨ W.heap.size ≤ x := by
  obtain ⟨gb, ib, fv, h1, h2⟩ := h
  refine (rfree_alive h1 k g ha).mono ?_
  rintro e w ⟨rfl, fv', h3, ⟨y, h4, h6⟩, h5⟩
  refine ⟨rfl, _, ⟨gb, ib, fv', h3, fun _ => Iff.rfl⟩, ⟨h5.os, h5.tape, h5.output, h5.size, fun k hk hn => h5.block k hk fun q => hn ((h2 k).2 q)⟩, fun x hx => ?_⟩
  rcases hx with hx | hx | hx | hx
  · exact .inl ((h2 x).2 (.inl hx))
  · exact .inl ((h2 x).2 (.inr (.inl hx)))
  · exact .inl ((h2 x).2 (.inr (.inr (.inl hx))))
  · rw [h4] at hx; simp at hx; exact .inr (by omega)
theorem rer_alive (h : Rer B W ub t r U) (i g : Int) :
    Calls Tryd.prog 16 #[.pointer (some ⟨ub, 0, none⟩), .agg #[.int .i64 i, .int .i64 g]] W fun e W' => e = .returned (.bool (r.aliveB i g)) ∧ Below W.heap.size W W' := by
  obtain ⟨gb, ib, fv, h1, h2⟩ := h
  exact ralive_any h1 i g
theorem rer_list (h : Rer B W ub t r U) : Calls Tryd.prog 17 #[.pointer (some ⟨ub, 0, none⟩)] W fun e W' => ∃ v, e = .returned v ∧ Ents W.heap.size W' v r.all ∧ Below W.heap.size W W' := by
  obtain ⟨gb, ib, fv, h1, h2⟩ := h
  exact rlist_any h1
end
/-- Both rolls, the row of those that were given, blocks that are kept: apart in memory. -/
structure Ex (w1 : World) (rb ub n : Nat) (gv : Value) (gl : List (Nat × Nat)) (K : List (Nat × Obj)) (r1 r2 : RS) (t1 t2 : Nat) (S U : Nat → Prop) (wr : World) : Prop where
  rol : Rol w1.heap.size wr rb t1 r1 S
  ref : Rer w1.heap.size wr ub t2 r2 U
  dis : ∀ x, S x → ¬ U x
  len : r1.gens.length = n ∧ r2.gens.length = n
  ents : Ents w1.heap.size wr gv gl
  ng : ∀ x, gv.ownBlock = some x → ¬ S x ∧ ¬ U x
  keep : ∀ p ∈ K, wr.heap[p.1]? = some p.2 ∧ ¬ S p.1 ∧ ¬ U p.1 ∧ gv.ownBlock ≠ some p.1
  bel : Below w1.heap.size w1 wr
section
variable {w1 wr w' : World} {rb ub n : Nat} {gv : Value} {gl : List (Nat × Nat)} {K : List (Nat × Obj)} {r1 r2 : RS} {t1 t2 : Nat} {S U : Nat → Prop}
theorem Ex.later (h : Ex w1 rb ub n gv gl K r1 r2 t1 t2 S U wr) (hb : Below wr.heap.size wr w') : Ex w1 rb ub n gv gl K r1 r2 t1 t2 S U w' :=
  ⟨h.rol.later hb, h.ref.later hb, h.dis, h.len, h.ents.kept (T := fun _ => False) (St.of_below hb) (fun _ _ q => q), h.ng, fun p hp => ⟨blk_seen hb (Nat.le_refl _) (h.keep p hp).1, (h.keep p hp).2⟩, h.bel.trans (hb.mono h.bel.size)⟩
theorem Ex.glt (h : Ex w1 rb ub n gv gl K r1 r2 t1 t2 S U wr) (x : Nat) (hx : gv.ownBlock = some x) : w1.heap.size ≤ x ∧ x < wr.heap.size := World.ownsRow.lt h.ents x hx
theorem Ex.fewer {K' : List (Nat × Obj)} (h : Ex w1 rb ub n gv gl K r1 r2 t1 t2 S U wr) (hK : ∀ p ∈ K', p ∈ K) : Ex w1 rb ub n gv gl K' r1 r2 t1 t2 S U wr :=
  ⟨h.rol, h.ref, h.dis, h.len, h.ents, h.ng, fun p hp => h.keep p (hK p hp), h.bel⟩
theorem Ex.new (h : Ex w1 rb ub n gv gl K r1 r2 t1 t2 S U wr) (o : Obj) : Ex w1 rb ub n gv gl ((wr.heap.size, o) :: K) r1 r2 t1 t2 S U (wr.alloc o) := by
  have h1 := h.later (bAl wr o)
  refine ⟨h1.rol, h1.ref, h1.dis, h1.len, h1.ents, h1.ng, fun p hp => ?_, h1.bel⟩
  rcases List.mem_cons.1 hp with rfl | hp
  · exact ⟨heap_alloc_new wr o, fun q => by have := (h.rol.lt _ q).2; omega, fun q => by have := (h.ref.lt _ q).2; omega, fun q => by have := (h.glt _ q).2; omega⟩
  · exact h1.keep p hp
theorem Ex.at {b : Nat} {o : Obj} (h : Ex w1 rb ub n gv gl K r1 r2 t1 t2 S U wr) (hp : (b, o) ∈ K) : wr.heap[b]? = some o := (h.keep _ hp).1
theorem Ex.klt {b : Nat} {o : Obj} (h : Ex w1 rb ub n gv gl K r1 r2 t1 t2 S U wr) (hp : (b, o) ∈ K) : b < wr.heap.size := (Array.getElem?_eq_some_iff.1 (h.at hp)).1
theorem Ex.roll {r1' : RS} {t1' : Nat} {S' : Nat → Prop} (h : Ex w1 rb ub n gv gl K r1 r2 t1 t2 S U wr) (hs : St S wr w') (h' : Rol w1.heap.size w' rb t1' r1' S') (hS : ∀ x, S' x → S x ∨ wr.heap.size ≤ x) (hl : r1'.gens.length = n) : Ex w1 rb ub n gv gl K r1' r2 t1' t2 S' U w' := by
  refine ⟨h', h.ref.kept hs fun k hk q => h.dis k q hk, fun x hx q => ?_, ⟨hl, h.len.2⟩, h.ents.kept hs fun x hx => (h.ng x hx).1, fun x hx => ⟨fun q => ?_, (h.ng x hx).2⟩, fun p hp => ⟨hs.at (h.keep p hp).1 (h.keep p hp).2.1, fun q => ?_, (h.keep p hp).2.2⟩, h.bel.trans (h.rol.below hs)⟩
  · rcases hS x hx with e | e
    · exact h.dis x e q
    · have := (h.ref.lt x q).2; omega
  · rcases hS x q with e | e
    · exact (h.ng x hx).1 e
    · have := (h.glt x hx).2; omega
  · rcases hS _ q with e | e
    · exact (h.keep p hp).2.1 e
    · have := (Array.getElem?_eq_some_iff.1 (h.keep p hp).1).1; omega
theorem Ex.reff {r2' : RS} {t2' : Nat} {U' : Nat → Prop} (h : Ex w1 rb ub n gv gl K r1 r2 t1 t2 S U wr) (hs : St U wr w') (h' : Rer w1.heap.size w' ub t2' r2' U') (hU : ∀ x, U' x → U x ∨ wr.heap.size ≤ x) (hl : r2'.gens.length = n) : Ex w1 rb ub n gv gl K r1 r2' t1 t2' S U' w' := by
  refine ⟨h.rol.kept hs fun k hk q => h.dis k hk q, h', fun x hx q => ?_, ⟨h.len.1, hl⟩, h.ents.kept hs fun x hx => (h.ng x hx).2, fun x hx => ⟨(h.ng x hx).1, fun q => ?_⟩, fun p hp => ⟨hs.at (h.keep p hp).1 (h.keep p hp).2.2.1, (h.keep p hp).2.1, fun q => ?_, (h.keep p hp).2.2.2⟩, h.bel.trans (h.ref.below hs)⟩
  · rcases hU x q with e | e
    · exact h.dis x hx e
    · have := (h.rol.lt x hx).2; omega
  · rcases hU x q with e | e
    · exact (h.ng x hx).2 e
    · have := (h.glt x hx).2; omega
  · rcases hU _ q with e | e
    · exact (h.keep p hp).2.2.1 e
    · have := (Array.getElem?_eq_some_iff.1 (h.keep p hp).1).1; omega
theorem Ex.ent {gv' : Value} {gl' : List (Nat × Nat)} (h : Ex w1 rb ub n gv gl K r1 r2 t1 t2 S U wr) (he : Ents w1.heap.size w' gv' gl') (hs : St (fun x => gv.ownBlock = some x) wr w') (hat : gv'.ownBlock = gv.ownBlock ∨ ∃ x, gv'.ownBlock = some x ∧ wr.heap.size ≤ x) : Ex w1 rb ub n gv' gl' K r1 r2 t1 t2 S U w' := by
  refine ⟨h.rol.kept hs fun k hk q => (h.ng k q).1 hk, h.ref.kept hs fun k hk q => (h.ng k q).2 hk, h.dis, h.len, he, fun x hx => ⟨fun q => ?_, fun q => ?_⟩, fun p hp => ⟨hs.at (h.keep p hp).1 (h.keep p hp).2.2.2, (h.keep p hp).2.1, (h.keep p hp).2.2.1, fun q => ?_⟩, h.bel.trans (hs.below (fun k hk => (h.glt k hk).1) h.bel.size)⟩
  · rcases hat with e | ⟨y, e, hy⟩
    · exact (h.ng x (e ▸ hx)).1 q
    · rw [e] at hx; have := (h.rol.lt x q).2; simp at hx; omega
  · rcases hat with e | ⟨y, e, hy⟩
    · exact (h.ng x (e ▸ hx)).2 q
    · rw [e] at hx; have := (h.ref.lt x q).2; simp at hx; omega
  · rcases hat with e | ⟨y, e, hy⟩
    · exact (h.keep p hp).2.2.2 (e ▸ q)
    · rw [e] at q; have := (Array.getElem?_eq_some_iff.1 (h.keep p hp).1).1; simp at q; omega
/-- A block that is kept is written. -/
theorem Ex.put {b j : Nat} {cs : Array Value} {e : TypeId} (u : Value) (h : Ex w1 rb ub n gv gl ((b, .cells cs e (0, 0)) :: K) r1 r2 t1 t2 S U wr) (hb : w1.heap.size ≤ b) (hK : ∀ p ∈ K, p.1 ≠ b) : Ex w1 rb ub n gv gl ((b, .cells (cs.setIfInBounds j u) e (0, 0)) :: K) r1 r2 t1 t2 S U (wr.setCell ⟨b, j, none⟩ u) := by
  have hs : St (fun x => x = b) wr (wr.setCell ⟨b, j, none⟩ u) := St.setCell _ rfl
  obtain ⟨k1, k2, k3, k4⟩ := h.keep (b, .cells cs e (0, 0)) (by simp)
  refine ⟨h.rol.kept hs fun k hk q => k2 (q ▸ hk), h.ref.kept hs fun k hk q => k3 (q ▸ hk), h.dis, h.len, h.ents.kept hs fun x hx q => k4 (q ▸ hx), h.ng, fun p hp => ?_, h.bel.setCell hb _⟩
  rcases List.mem_cons.1 hp with rfl | hp
  · exact ⟨heap_setCell_same _ b j _ e _ k1, k2, k3, k4⟩
  · obtain ⟨q1, q2, q3, q4⟩ := h.keep p (by simp [hp])
    exact ⟨hs.at q1 (hK p hp), q2, q3, q4⟩
end
theorem num_err {Ad : Nat → Addr} {W : World} {v : Value} {s : ByteArray} {k : Nat} (hE : Env W Ad) (h : ErrAt Ad W v s k) (hk : numOf [k] = (k : Int)) : Calls Tryd.prog 12 #[v] W fun e w' => e = .returned (.int .i64 (k : Int)) ∧ Below W.heap.size W w' := by
  have hh := number_some Ad v [([s], k)] 1 W hE h.tr (by omega) h.shape
  rw [show ([([s], k)] : List (List ByteArray × Nat)).map Prod.snd = [k] from rfl, hk] at hh
  exact hh
end Go.Proofs.YtdpoojopipcffaaDoor
