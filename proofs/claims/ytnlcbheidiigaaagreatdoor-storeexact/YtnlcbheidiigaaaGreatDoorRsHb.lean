/- A part of StoreExact. -/
import Derived.Test.YtnlcbheidiigaaaGreatDoorRsHa
import Derived.Test.YtnlcbheidiigaaaGreatDoorRsGr
namespace Go.Proofs.YtnlcbheidiigaaaGreatDoor
namespace Rs
open Go.RowKit Go.Shelf Go.Maps
open At (St bAl cell_blk blk_seen Err)
open YtnlcbheidiigaaaGreatDoor.So (Sto CV Gw Er)
theorem own_fr {B : Nat} {W : World} {ty : TypeId} {sz : Nat} {v : Value} {n : Nat} {l : List Value} (h : W.ownsRow B ty sz v n l) :
  ∃ fr0 : List (Nat × Obj), (∀ x ∈ fr0, W.heap[x.1]? = some x.2 ∧ v.ownBlock = some x.1) ∧ (∀ k, v.ownBlock = some k → ∃ o, (k, o) ∈ fr0) ∧ ∀ w3 : World, (∀ x ∈ fr0, w3.heap[x.1]? = some x.2) → w3.ownsRow B ty sz v n l := by
 rcases h with ⟨h0, h1 | ⟨g, cap, cur, h1, h2, h3, h4⟩⟩
 ·exact ⟨[], fun x hx => by simp at hx, fun k hk => by rw [h1.1] at hk; simp [Value.ownBlock] at hk, fun w3 _ => ⟨h0, .inl h1⟩⟩
 ·refine ⟨[(g, .cells cur ty (0, 0))], fun x hx => ?_, fun k hk => ⟨.cells cur ty (0, 0), ?_⟩, fun w3 h5 => ⟨h0, .inr ⟨g, cap, cur, h1, h2, h5 _ (List.mem_cons_self ..), h4⟩⟩⟩
  ·obtain rfl : x = (g, .cells cur ty (0, 0)) := by simpa using hx
   exact ⟨h3, by rw [h1]; rfl⟩
  ·rw [h1] at hk
   obtain rfl : g = k := by simpa [Value.ownBlock] using hk
   exact List.mem_cons_self ..
theorem is_er {w : World} {v : Value} {Ad : Nat → Addr} (hE : Env8 w Ad) {p k d : Nat} (h : Err Ad w v p d) (hk : k ∈ eight) (hp : p ∈ eight := by decide) : Calls Tryz.prog 13 #[v, .iface 278 (.pointer (some (Ad k)))] w fun e w' => e = .returned (.bool (decide (p = k))) ∧ Below w.heap.size w w' := by
 obtain ⟨ws, h⟩ := h
 obtain ⟨t, q, rfl, -⟩ := h.1.shape
 refine is_by Ad k t q _ w ((eis_gen Ad w.heap.size k w ws _ p (hE.sen p hp (eight_le p hp).2) (hE.sen k hk (eight_le k hk).2) (hE.same hp hk) h.1).mono ?_)
 rintro e w' ⟨rfl, rfl⟩
 exact ⟨rfl, Below.refl _ _⟩
structure Ey (W1 : World) (sb ub : Nat) (s u : SD) (t : Nat) (gv : Value) (gl : List (Nat × Nat)) (fr : List (Nat × Obj)) (w : World) (c : CV) (x : SV) : Prop where
 p : Sto none W1.heap.size w sb c s
 tt : c.t ≤ t
 d : Sb W1.heap.size w ub x u
 ap : ∀ k, x.fp ub k → c.f k = (0, 0, 0)
 frs : ∀ y ∈ fr, w.heap[y.1]? = some y.2 ∧ c.f y.1 = (0, 0, 0) ∧ ¬ x.fp ub y.1 ∧ gv.ownBlock ≠ some y.1
 gvs : ∀ k, gv.ownBlock = some k → c.f k = (0, 0, 0) ∧ ¬ x.fp ub k
 giv : Ro.Ents W1.heap.size w gv gl
 bel : Below W1.heap.size W1 w
 low : ∀ y ∈ fr, W1.heap.size ≤ y.1
def Ex (W1 : World) (sb ub : Nat) (s u : SD) (t : Nat) (gv : Value) (gl : List (Nat × Nat)) (fr : List (Nat × Obj)) (w : World) : Prop := ∃ c x, Ey W1 sb ub s u t gv gl fr w c x
section
variable {W1 w w' : World} {sb ub : Nat} {s u : SD} {t : Nat} {gv : Value} {gl : List (Nat × Nat)} {fr : List (Nat × Obj)} {Ad : Nat → Addr} {c : CV} {x : SV}
theorem Ey.later (h : Ey W1 sb ub s u t gv gl fr w c x) (hb : Below w.heap.size w w') : Ey W1 sb ub s u t gv gl fr w' c x :=
 ⟨h.p.later hb, h.tt, h.d.later hb, h.ap, fun y hy => ⟨blk_seen hb (Nat.le_refl _) (h.frs y hy).1, (h.frs y hy).2⟩, h.gvs, Ro.Ents.later h.giv hb, h.bel.trans (hb.mono h.bel.size), h.low⟩
theorem Ex.later (h : Ex W1 sb ub s u t gv gl fr w) (hb : Below w.heap.size w w') : Ex W1 sb ub s u t gv gl fr w' := by
 obtain ⟨c, x, h⟩ := h
 exact ⟨c, x, h.later hb⟩
theorem Ex.bel (h : Ex W1 sb ub s u t gv gl fr w) : Below W1.heap.size W1 w := by obtain ⟨c, x, h⟩ := h; exact h.bel
theorem Ex.alloc (h : Ex W1 sb ub s u t gv gl fr w) (cs : Array Value) (ty : TypeId) : Ex W1 sb ub s u t gv gl ((w.heap.size, .cells cs ty (0, 0)) :: fr) (w.alloc (.cells cs ty)) := by
 obtain ⟨c, x, h⟩ := h
 have b := bAl w (.cells cs ty)
 have h' := h.later b
 refine ⟨c, x, h'.p, h'.tt, h'.d, h'.ap, fun y hy => ?_, h'.gvs, h'.giv, h'.bel, fun y hy => ?_⟩
 ·rcases List.mem_cons.1 hy with rfl | hy
  ·refine ⟨heap_alloc_new w _, ?_, fun q => ?_, fun q => ?_⟩
   ·exact Classical.byContradiction fun q => by have := (h.p.lt _ q).2; simp at this
   ·have := (h.d.lt _ q).2; simp at this
   ·have := (World.ownsRow.lt h.giv _ q).2; simp at this
  ·exact h'.frs y hy
 ·rcases List.mem_cons.1 hy with rfl | hy
  ·exact h.bel.size
  ·exact h.low y hy
theorem Ex.at (h : Ex W1 sb ub s u t gv gl fr w) {k : Nat} {o : Obj} (hk : (k, o) ∈ fr) : w.heap[k]? = some o := by
 obtain ⟨c, x, h⟩ := h
 exact (h.frs _ hk).1
theorem Ex.few (h : Ex W1 sb ub s u t gv gl fr w) {fr2 : List (Nat × Obj)} (hf : ∀ y ∈ fr2, y ∈ fr) : Ex W1 sb ub s u t gv gl fr2 w := by
 obtain ⟨c, x, h⟩ := h
 exact ⟨c, x, h.p, h.tt, h.d, h.ap, fun y hy => h.frs y (hf y hy), h.gvs, h.giv, h.bel, fun y hy => h.low y (hf y hy)⟩
theorem Ex.older {t2 : Nat} (h : Ex W1 sb ub s u t gv gl fr w) (ht : t ≤ t2) : Ex W1 sb ub s u t2 gv gl fr w := by
 obtain ⟨c, x, h⟩ := h
 exact ⟨c, x, h.p, Nat.le_trans h.tt ht, h.d, h.ap, h.frs, h.gvs, h.giv, h.bel, h.low⟩
theorem Ex.put {b : Nat} {o o' : Obj} (h : Ex W1 sb ub s u t gv gl ((b, o) :: fr) w) (hs : St (fun k => k = b) w w') (ho : w'.heap[b]? = some o') (hne : ∀ y ∈ fr, y.1 ≠ b) : Ex W1 sb ub s u t gv gl ((b, o') :: fr) w' := by
 obtain ⟨c, x, h⟩ := h
 obtain ⟨-, f1, f2, f3⟩ := h.frs _ (List.mem_cons_self ..)
 have lb := h.low _ (List.mem_cons_self ..)
 have bb : Below W1.heap.size w w' := hs.below (fun k hk => by rw [hk]; exact lb) h.bel.size
 refine ⟨c, x, h.p.keep hs fun k hk e => hk (by rw [e]; exact f1), h.tt, h.d.kept hs (fun k hk e => f2 (e ▸ hk)) bb, h.ap, fun y hy => ?_, h.gvs, ents_kept h.giv hs fun k hk e => f3 (by rw [hk, e]), h.bel.trans (bb.mono (Nat.le_refl _)), fun y hy => ?_⟩
 ·rcases List.mem_cons.1 hy with rfl | hy
  ·exact ⟨ho, f1, f2, f3⟩
  ·obtain ⟨g0, g⟩ := h.frs y (List.mem_cons_of_mem _ hy)
   exact ⟨hs.at g0 (hne y hy), g⟩
 ·rcases List.mem_cons.1 hy with rfl | hy
  ·exact lb
  ·exact h.low y (List.mem_cons_of_mem _ hy)
theorem Ey.goP {c' : CV} {s2 : SD} {t2 : Nat} (h : Ey W1 sb ub s u t gv gl fr w c x) (k1 : Sto none W1.heap.size w' sb c' s2) (k2 : c'.t ≤ t2) (k3 : Gw c c' w w') : Ey W1 sb ub s2 u t2 gv gl fr w' c' x := by
 have bb := So.Gw.below h.p k3 h.bel.size
 have N : ∀ k, k < w.heap.size → c.f k = (0, 0, 0) → c'.f k = (0, 0, 0) := fun k hk q => Classical.byContradiction fun q' => by
  rcases k3.new k q' with e | e
  ·exact e q
  ·omega
 refine ⟨k1, k2, h.d.kept k3.st (fun k hk q => q (h.ap k hk)) bb, fun k hk => N k (h.d.lt k hk).2 (h.ap k hk), fun y hy => ?_, fun k hk => ⟨N k (World.ownsRow.lt h.giv k hk).2 (h.gvs k hk).1, (h.gvs k hk).2⟩, ents_kept h.giv k3.st fun k hk q => q (h.gvs k hk).1, h.bel.trans (bb.mono (Nat.le_refl _)), h.low⟩
 obtain ⟨g0, g1, g2, g3⟩ := h.frs y hy
 exact ⟨k3.st.at g0 fun q => q g1, N _ (Array.getElem?_eq_some_iff.1 g0).1 g1, g2, g3⟩
theorem Ey.goD {x' : SV} {u2 : SD} (h : Ey W1 sb ub s u t gv gl fr w c x) (k1 : Gs W1.heap.size w ub x w' x' u2) : Ey W1 sb ub s u2 t gv gl fr w' c x' := by
 have bb := k1.below h.d
 have N : ∀ k, k < w.heap.size → ¬ x.fp ub k → ¬ x'.fp ub k := fun k hk q q' => by
  rcases k1.new k q' with e | e
  ·exact q e
  ·omega
 refine ⟨h.p.keep k1.st fun k hk q => hk (h.ap k q), h.tt, k1.sb, fun k hk => ?_, fun y hy => ?_, fun k hk => ⟨(h.gvs k hk).1, N k (World.ownsRow.lt h.giv k hk).2 (h.gvs k hk).2⟩, ents_kept h.giv k1.st fun k hk q => (h.gvs k hk).2 q, h.bel.trans (bb.mono (Nat.le_refl _)), h.low⟩
 ·rcases k1.new k hk with e | e
  ·exact h.ap k e
  ·exact Classical.byContradiction fun q => by have := (h.p.lt k q).2; omega
 ·obtain ⟨g0, g1, g2, g3⟩ := h.frs y hy
  exact ⟨k1.st.at g0 g2, g1, N _ (Array.getElem?_eq_some_iff.1 g0).1 g2, g3⟩
theorem Ey.add {fr0 : List (Nat × Obj)} (h : Ey W1 sb ub s u t gv gl fr w c x) (h0 : ∀ y ∈ fr0, w.heap[y.1]? = some y.2 ∧ c.f y.1 = (0, 0, 0) ∧ ¬ x.fp ub y.1 ∧ gv.ownBlock ≠ some y.1) (h1 : ∀ y ∈ fr0, W1.heap.size ≤ y.1) : Ey W1 sb ub s u t gv gl (fr0 ++ fr) w c x :=
 ⟨h.p, h.tt, h.d, h.ap, fun y hy => (List.mem_append.1 hy).elim (h0 y) (h.frs y), h.gvs, h.giv, h.bel, fun y hy => (List.mem_append.1 hy).elim (h1 y) (h.low y)⟩
theorem Ey.bound (h : Ey W1 sb ub s u t gv gl fr w c x) {t2 : Nat} (ht : ∀ g ∈ u.r.gens, g ≤ t2) : Ey W1 sb ub s u t gv gl fr w c { x with t := t2 } :=
 ⟨h.p, h.tt, h.d.bound ht, h.ap, h.frs, h.gvs, h.giv, h.bel, h.low⟩
theorem Ex.give {gv' : Value} {gl' : List (Nat × Nat)} (h : Ex W1 sb ub s u t gv gl fr w) (ho : Ro.Ents W1.heap.size w' gv' gl') (hs : St (fun k => gv.ownBlock = some k) w w') (hat : gv'.ownBlock = gv.ownBlock ∨ ∃ k, gv'.ownBlock = some k ∧ w.heap.size ≤ k) : Ex W1 sb ub s u t gv' gl' fr w' := by
 obtain ⟨c, x, h⟩ := h
 have bb : Below W1.heap.size w w' := hs.below (fun k hk => (World.ownsRow.lt h.giv k hk).1) h.bel.size
 refine ⟨c, x, h.p.keep hs fun k hk e => hk (h.gvs k e).1, h.tt, h.d.kept hs (fun k hk e => (h.gvs k e).2 hk) bb, h.ap, fun y hy => ?_, fun k hk => ?_, ho, h.bel.trans (bb.mono (Nat.le_refl _)), h.low⟩
 ·obtain ⟨g0, g1, g2, g3⟩ := h.frs y hy
  refine ⟨hs.at g0 g3, g1, g2, fun e => ?_⟩
  rcases hat with q | ⟨k, q1, q2⟩
  ·exact g3 (q ▸ e)
  ·rw [q1] at e
   have := (Array.getElem?_eq_some_iff.1 g0).1
   simp at e
   omega
 ·rcases hat with q | ⟨k', q1, q2⟩
  ·exact h.gvs k (q ▸ hk)
  ·rw [q1] at hk
   obtain rfl : k' = k := by simpa using hk
   exact ⟨Classical.byContradiction fun q => by have := (h.p.lt k' q).2; omega, fun q => by have := (h.d.lt k' q).2; omega⟩
end
def En (Ad : Nat → Addr) (w : World) (ev : Value) (K : Int) : Prop := ∃ k : Nat, K = (k : Int) ∧ Er Ad w ev k 10
section
variable {w w' : World} {Ad : Nat → Addr} {ev : Value} {K : Int}
theorem En.later (h : En Ad w ev K) (hb : Below w.heap.size w w') : En Ad w' ev K := by
 obtain ⟨k, h1, h2⟩ := h
 exact ⟨k, h1, h2.later hb⟩
theorem En.over (h : En Ad w ev K) (hb : K ≠ 0 → Below w.heap.size w w') : En Ad w' ev K := by
 obtain ⟨k, rfl, h2⟩ := h
 by_cases h0 : k = 0
 ·subst h0
  obtain rfl := h2.zero
  exact ⟨0, rfl, Er.none Ad w'⟩
 ·exact ⟨k, rfl, h2.later (hb (by omega))⟩
theorem En.put {b : Nat} {z : Int} {o : Array Value} {ty : TypeId} (h : En Ad w ev K) (hk : w.heap[b]? = some (.cells o ty (0, 0))) (h0 : o[0]? = some (.int .i64 z)) (hs : St (fun k => k = b) w w') : En Ad w' ev K := by
 obtain ⟨k, e, h2⟩ := h
 refine ⟨k, e, ?_⟩
 rcases h2 with h2 | ⟨q, t, p, rfl, d, ws, h3, h4⟩
 ·exact .inl h2
 ·refine .inr ⟨q, t, p, rfl, d, ws, So.ch_kept (S := fun k => k = b) (fun x hx hn => hs.block x hx hn) (fun x hx str e => ?_) hs.size h3, h4⟩
  rw [hx, cell_blk hk h0] at e
  simp at e
theorem number_en (hE : Env w Ad) (h : En Ad w ev K) : Calls Tryz.prog 34 #[ev] w fun e w' => e = .returned (.int .i64 K) ∧ Below w.heap.size w w' := by
 obtain ⟨k, rfl, h2⟩ := h
 rcases h2 with ⟨rfl, rfl⟩ | ⟨h0, t, q, rfl, d, ws, h3⟩
 ·exact (number_nil w).mono fun _ _ ⟨q1, q2⟩ => ⟨q1, by rw [q2]; exact Below.refl _ _⟩
 ·have := number_some Ad _ [(ws, k)] _ w hE h3.tr (by omega) ⟨t, q, rfl⟩
  have hk := h3.2
  simp only at hk
  obtain ⟨j, rfl⟩ : ∃ j, k = j + 1 := ⟨k - 1, by omega⟩
  rw [show ([(ws, j + 1)].map Prod.snd) = [j + 1] from rfl, numOf_one j (by omega)] at this
  exact this
end
theorem ix_some {l : List Prt} {comp : Int} {q : Prt} (hq : l[ix l comp]? = some q) : q ∈ l ∧ q.c = comp := by
 refine ⟨List.mem_of_getElem? hq, ?_⟩
 obtain ⟨h1, h2⟩ := List.getElem?_eq_some_iff.1 hq
 have h3 : List.findIdx (fun p : Prt => p.c == comp) l < l.length := h1
 have := List.findIdx_getElem (w := h3)
 have h4 : l[List.findIdx (fun p : Prt => p.c == comp) l] = q := h2
 rw [h4] at this
 simpa using this
theorem ix_none {l : List Prt} {comp : Int} (h : l[ix l comp]? = none) : ∀ x ∈ l, x.c ≠ comp := ix_absent (List.getElem?_eq_none_iff.1 h)
theorem prow_arg {S : Nat → Prop} {W w : World} {v : Value} {l : List Prt} (h : PRow W v l) (hb : Below W.heap.size W w) (hS : ∀ k, S k → W.heap.size ≤ k) : So.PRowOut S w v l := by
 obtain ⟨a, c, rfl, h2⟩ := h
 refine ⟨a, c, rfl, ?_⟩
 by_cases h0 : l = []
 ·exact .inl h0
 ·rcases h2 with h2 | ⟨b, o, h3, h4⟩
  ·exact .inl h2
  ·refine .inr ⟨b, o, h3, fun q => ?_, fun j x hx => (h4 j x hx).later hb⟩
   obtain ⟨x, hx⟩ := at_lt l 0 (List.length_pos_iff.2 h0)
   obtain ⟨z0, -⟩ := h4 0 x hx
   have := World.block_lt_of_cell? W _ z0
   have := hS b q
   simp at *
   omega
end Rs
end Go.Proofs.YtnlcbheidiigaaaGreatDoor
