/- A part of StoreExact. -/
import Derived.Test.YtnlcbheidiigaaaGreatDoorRsHi
import Derived.Test.YtnlcbheidiigaaaGreatDoorRsHd
namespace Go.Proofs.YtnlcbheidiigaaaGreatDoor
namespace Rs
open Go.RowKit Go.Shelf Go.Maps
open At (bAl)
open YtnlcbheidiigaaaGreatDoor.So (Sto CV madeS)
open Co (I64)
def bX (x : AX) (la : Option Addr) (lc : Nat) : Obj := .cells #[.int .i64 x.kd, .int .i64 x.n, .int .i64 x.ei, .int .i64 x.eg, .slice la x.l.length lc, .int .i64 x.p.c, .int .i64 x.p.v0, .int .i64 x.p.v1, .int .i64 x.p.v2, .int .i64 x.p.v3, .int .i64 x.p.t, .int .i64 x.comp, .int .i64 x.cell, .int .i64 x.value, .int .u32 (x.m : Int), .int .u32 (x.w : Int)] 51 (0, 0)
def bE (i g : Int) : Obj := .cells #[.int .i64 i, .int .i64 g] 43 (0, 0)
def bP (p : Prt) : Obj := .cells p.arr 47 (0, 0)
section
variable {W1 w w' : World} {sb ub : Nat} {s u : SD} {t : Nat} {gv : Value} {gl : List (Nat × Nat)} {Ad : Nat → Addr}
theorem Ex.given {fr : List (Nat × Obj)} (h : Ex W1 sb ub s u t gv gl fr w) : ∃ a c, gv = .slice a gl.length c := by
 obtain ⟨_, _, h⟩ := h
 exact Ro.Ents.slice h.giv
def rnd (bx nb : Nat) (x : AX) (la : Option Addr) (lc : Nat) (i g : Int) (pa pb : Prt) : List (Nat × Obj) := [(nb + 2, bP pb), (nb + 1, bP pa), (nb, bE i g), (bx, bX x la lc)]
section
variable {bx nb : Nat} {x : AX} {la : Option Addr} {lc : Nat} {i g : Int} {pa pb : Prt}
theorem rd_x (h : Ex W1 sb ub s u t gv gl (rnd bx nb x la lc i g pa pb) w) : w.heap[bx]? = some (bX x la lc) := h.at (by simp [rnd])
theorem rd_n (h : Ex W1 sb ub s u t gv gl (rnd bx nb x la lc i g pa pb) w) : w.heap[nb]? = some (bE i g) := h.at (by simp [rnd])
theorem rd_a (h : Ex W1 sb ub s u t gv gl (rnd bx nb x la lc i g pa pb) w) : w.heap[nb + 1]? = some (bP pa) := h.at (by simp [rnd])
theorem rd_b (h : Ex W1 sb ub s u t gv gl (rnd bx nb x la lc i g pa pb) w) : w.heap[nb + 2]? = some (bP pb) := h.at (by simp [rnd])
theorem set_a (h : Ex W1 sb ub s u t gv gl (rnd bx nb x la lc i g pa pb) w) (hb : bx < nb) (p : Prt) : Ex W1 sb ub s u t gv gl (rnd bx nb x la lc i g p pb) (six w (nb + 1) p) := by
 have h2 : Ex W1 sb ub s u t gv gl [(nb + 1, bP pa), (nb + 2, bP pb), (nb, bE i g), (bx, bX x la lc)] w := h.few fun y hy => by
  simp [rnd] at hy ⊢
  rcases hy with rfl | rfl | rfl | rfl <;> simp
 have h3 := h2.put (o' := bP p) (six_st w (nb + 1) p) (six_set (rd_a h)).1 fun y hy => by
  simp at hy
  rcases hy with rfl | rfl | rfl <;> simp <;> omega
 exact h3.few fun y hy => by
  simp [rnd] at hy ⊢
  rcases hy with rfl | rfl | rfl | rfl <;> simp
theorem set_b (h : Ex W1 sb ub s u t gv gl (rnd bx nb x la lc i g pa pb) w) (hb : bx < nb) (p : Prt) : Ex W1 sb ub s u t gv gl (rnd bx nb x la lc i g pa p) (six w (nb + 2) p) :=
 Ex.put (o' := bP p) h (six_st w (nb + 2) p) (six_set (rd_b h)).1 fun y hy => by
  simp at hy
  rcases hy with rfl | rfl | rfl <;> simp <;> omega
theorem en_a {ev : Value} {K : Int} (h : Ex W1 sb ub s u t gv gl (rnd bx nb x la lc i g pa pb) w) (he : En Ad w ev K) (p : Prt) : En Ad (six w (nb + 1) p) ev K := he.put (rd_a h) rfl (six_st w (nb + 1) p)
theorem en_b {ev : Value} {K : Int} (h : Ex W1 sb ub s u t gv gl (rnd bx nb x la lc i g pa pb) w) (he : En Ad w ev K) (p : Prt) : En Ad (six w (nb + 2) p) ev K := he.put (rd_b h) rfl (six_st w (nb + 2) p)
end
theorem ex_made {W1 w2 w3 : World} {sb ub : Nat} {s : SD} {c : CV} {x : SV} (h1 : Sto none W1.heap.size w2 sb c s) (ht : c.t = 0) (b1 : Below W1.heap.size W1 w2) (h2 : Sb W1.heap.size w3 ub x s) (hn : ∀ k, x.fp ub k → w2.heap.size ≤ k) (b2 : Below w2.heap.size w2 w3) : Ex W1 sb ub s s 0 (.slice (some ⟨w3.heap.size, 0, none⟩) 0 0) [] [] (w3.alloc (.cells #[] 43)) := by
 have b3 := bAl w3 (.cells #[] 43)
 have b13 := b1.trans (b2.mono b1.size)
 refine ⟨c, x, (h1.later b2).later b3, by omega, h2.later b3, fun k hk => Classical.byContradiction fun q => ?_, fun y hy => by simp at hy, fun k hk => ?_, ?_, b13.trans (b3.mono b13.size), fun y hy => by simp at hy⟩
 ·have := (h1.lt k q).2
  have := hn k hk
  omega
 ·obtain rfl : w3.heap.size = k := by simpa [Value.ownBlock] using hk
  refine ⟨Classical.byContradiction fun q => ?_, fun q => ?_⟩
  ·have := ((h1.later b2).lt _ q).2
   omega
  ·have := (h2.lt _ q).2
   omega
 ·have := World.ownsRow_lit (base := w3.heap.size) (e := 43) (size := 2) w3 #[] 0 (Nat.le_refl _) (Nat.zero_le _) rfl
  exact World.ownsRow.mono this b13.size
theorem sm_made (ws : List Nat) (n : Nat) : Sm (madeS ws n) 0 := by
 refine ⟨fun g hg => ?_, by simp [madeS]⟩
 have hg' : g ∈ List.replicate n 0 := hg
 rw [List.eq_of_mem_replicate hg']
 exact Nat.le_refl _
theorem spawn_small {s : SD} {q : Nat} (h : Sm s q) (hq : q ≤ 150) (h64 : s.r.gens.length ≤ 64) (hok : s.r.ok) (l : List Prt) : ∃ a b : Nat, (s.spawn l).1.1 = (a : Int) ∧ (s.spawn l).1.2.1 = (b : Int) ∧ a ≤ 1000 ∧ b ≤ 1000 := by
 unfold SD.spawn
 split
 ·split
  ·rename_i i hi
   have hm : i ∈ s.r.free := List.mem_of_getLast? hi
   have hl := hok.2 i hm
   have := h.gens _ (List.getElem_mem hl)
   refine ⟨i, s.r.gens.getD i 0 + 1, rfl, by simp, by omega, ?_⟩
   rw [List.getD_eq_getElem?_getD, List.getElem?_eq_getElem hl]
   simp
   omega
  ·exact ⟨0, 0, rfl, rfl, by omega, by omega⟩
 ·exact ⟨0, 0, rfl, rfl, by omega, by omega⟩
theorem I64_nat {n : Nat} (h : n ≤ 1000) : I64 (n : Int) := Co.I64_mid (by omega) (by omega)
def EE (w : World) (v : Value) (l : List (Nat × Nat)) : Prop := ∃ B, Ro.Ents B w v l
theorem EE.later {v : Value} {l : List (Nat × Nat)} (h : EE w v l) (hb : Below w.heap.size w w') : EE w' v l := by
 obtain ⟨B, h⟩ := h
 exact ⟨B, Ro.Ents.later h hb⟩
theorem ex_match {fr : List (Nat × Obj)} (h : Ex W1 sb ub s s t gv gl fr w) (h64 : ∀ p ∈ s.r.all, p.1 ≤ 1000 ∧ p.2 ≤ 1000) (hl : s.r.all.length ≤ 64) (a b : Nat) (ha : a < 4294967296) (hb : b < 4294967296) :
  (∀ W', Below w.heap.size w W' → Calls Tryz.prog 30 #[.pointer (some ⟨sb, 0, none⟩), .int .u32 (a : Int), .int .u32 (b : Int)] W' fun e w2 => ∃ v, e = .returned v ∧ Hid (EE w2 v (So.matched s a b)) ∧ Below w.heap.size w w2 ∧ Hid (∀ v0, Hid (EE W' v0 (So.matched s a b)) → Hid (EE w2 v0 (So.matched s a b)))) ∧
  (∀ W', Below w.heap.size w W' → Calls Tryz.prog 31 #[.pointer (some ⟨ub, 0, none⟩), .int .u32 (a : Int), .int .u32 (b : Int)] W' fun e w2 => ∃ v, e = .returned v ∧ Hid (EE w2 v (So.matched s a b)) ∧ Below w.heap.size w w2 ∧ Hid (∀ v0, Hid (EE W' v0 (So.matched s a b)) → Hid (EE w2 v0 (So.matched s a b)))) ∧
  (∀ W' v0 v1, Hid (EE W' v0 (So.matched s a b)) → Hid (EE W' v1 (So.matched s a b)) → Below w.heap.size w W' → Calls Tryz.prog 29 #[v0, v1] W' fun e w2 => e = .returned (.bool true) ∧ Below w.heap.size w w2) := by
 refine ⟨fun W' hw => ((h.later hw).match a b ha hb).1.mono ?_, fun W' hw => ((h.later hw).match a b ha hb).2.mono ?_, fun W' v0 v1 e0 e1 hw => ?_⟩
 ·rintro e w2 ⟨v, rfl, q1, q2⟩
  exact ⟨v, rfl, ⟨_, q1⟩, hw.trans (q2.mono hw.size), fun v0 e0 => EE.later e0.out q2⟩
 ·rintro e w2 ⟨v, rfl, q1, q2⟩
  exact ⟨v, rfl, ⟨_, q1⟩, hw.trans (q2.mono hw.size), fun v0 e0 => EE.later e0.out q2⟩
 ·obtain ⟨B0, k0⟩ := e0.out
  obtain ⟨B1, k1⟩ := e1.out
  refine (Ro.same_any k0 k1 ?_ fun p hp => ?_).mono ?_
  ·have := List.length_filter_le (fun x => At.mtB a b (mskP (s.at x.1))) s.r.all
   unfold So.matched
   omega
  ·exact h64 p (List.mem_filter.1 hp).1
  ·rintro e w2 ⟨rfl, q⟩
   exact ⟨rfl, hw.trans (q.mono hw.size)⟩
theorem ex_changed {fr : List (Nat × Obj)} (h : Ex W1 sb ub s s t gv gl fr w) (h64 : ∀ p ∈ s.r.all, p.1 ≤ 1000 ∧ p.2 ≤ 1000) (hl : s.r.all.length ≤ 64) (comp f : Int) (hc : I64 comp) :
  (∀ W', Below w.heap.size w W' → Calls Tryz.prog 32 #[.pointer (some ⟨sb, 0, none⟩), .int .i64 comp, .int .i64 f] W' fun e w2 => ∃ v, e = .returned v ∧ Hid (EE w2 v (So.changedL s comp f)) ∧ Below w.heap.size w w2 ∧ Hid (∀ v0, Hid (EE W' v0 (So.changedL s comp f)) → Hid (EE w2 v0 (So.changedL s comp f)))) ∧
  (∀ W', Below w.heap.size w W' → Calls Tryz.prog 33 #[.pointer (some ⟨ub, 0, none⟩), .int .i64 comp, .int .i64 f] W' fun e w2 => ∃ v, e = .returned v ∧ Hid (EE w2 v (So.changedL s comp f)) ∧ Below w.heap.size w w2 ∧ Hid (∀ v0, Hid (EE W' v0 (So.changedL s comp f)) → Hid (EE w2 v0 (So.changedL s comp f)))) ∧
  (∀ W' v0 v1, Hid (EE W' v0 (So.changedL s comp f)) → Hid (EE W' v1 (So.changedL s comp f)) → Below w.heap.size w W' → Calls Tryz.prog 29 #[v0, v1] W' fun e w2 => e = .returned (.bool true) ∧ Below w.heap.size w w2) := by
 refine ⟨fun W' hw => ((h.later hw).changed comp f hc).1.mono ?_, fun W' hw => ((h.later hw).changed comp f hc).2.mono ?_, fun W' v0 v1 e0 e1 hw => ?_⟩
 ·rintro e w2 ⟨v, rfl, q1, q2⟩
  exact ⟨v, rfl, ⟨_, q1⟩, hw.trans (q2.mono hw.size), fun v0 e0 => EE.later e0.out q2⟩
 ·rintro e w2 ⟨v, rfl, q1, q2⟩
  exact ⟨v, rfl, ⟨_, q1⟩, hw.trans (q2.mono hw.size), fun v0 e0 => EE.later e0.out q2⟩
 ·obtain ⟨B0, k0⟩ := e0.out
  obtain ⟨B1, k1⟩ := e1.out
  refine (Ro.same_any k0 k1 ?_ fun p hp => ?_).mono ?_
  ·have := List.length_filter_le (So.chF s comp f) s.r.all
   unfold So.changedL
   omega
  ·exact h64 p (List.mem_filter.1 hp).1
  ·rintro e w2 ⟨rfl, q⟩
   exact ⟨rfl, hw.trans (q.mono hw.size)⟩
end
end Rs
end Go.Proofs.YtnlcbheidiigaaaGreatDoor
