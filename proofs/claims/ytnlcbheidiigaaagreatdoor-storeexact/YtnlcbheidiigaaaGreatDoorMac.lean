/- A part of StoreExact. -/
import Derived.Laws.StructEq
import Derived.Test.YtnlcbheidiigaaaGreatDoorMab
namespace Go.Proofs.YtnlcbheidiigaaaGreatDoor
namespace Ro
open Go.RowKit Go.Shelf Go.Maps
def RS.isL (r : RS) : List Bool := (List.range r.gens.length).map fun i => decide (i ∉ r.free)
theorem RS.isL_len (r : RS) : r.isL.length = r.gens.length := by simp [RS.isL]
theorem RS.isL_at {r : RS} {k : Nat} (hk : k < r.gens.length) : r.isL[k]? = some (decide (k ∉ r.free)) := by simp [RS.isL, hk]
def Fu (ub gb ib : Nat) (fv : Value) (k : Nat) : Prop := k = ub ∨ k = gb ∨ k = ib ∨ fv.ownBlock = some k
structure Rr (B : Nat) (W : World) (ub gb ib : Nat) (fv : Value) (t : Nat) (r : RS) : Prop where
 box : W.heap[ub]? = some (.cells #[.slice (some ⟨gb, 0, none⟩) r.gens.length r.gens.length, .slice (some ⟨ib, 0, none⟩) r.gens.length r.gens.length, fv] 168 (0, 0))
 gens : W.heap[gb]? = some (.cells (r.gens.map gI).toArray 3 (0, 0))
 isb : W.heap[ib]? = some (.cells (r.isL.map Value.bool).toArray 4 (0, 0))
 free : W.ownsRow B 3 1 fv r.free.length (r.free.map gI)
 ok : r.ok
 small : r.gens.length ≤ 64
 old : ∀ g ∈ r.gens, g ≤ t
 low : B ≤ ub ∧ B ≤ gb ∧ B ≤ ib
 apart : fv.ownBlock ≠ some gb
 nz : 0 < r.gens.length → ∃ g, fv.ownBlock = some g
section
variable {B : Nat} {W W' : World} {ub gb ib t : Nat} {fv : Value} {r : RS}
theorem Rr.kept {T : Nat → Prop} (h : Rr B W ub gb ib fv t r) (hs : St T W W') (hd : ∀ k, Fu ub gb ib fv k → ¬ T k) : Rr B W' ub gb ib fv t r :=
 ⟨hs.at h.box (hd _ (.inl rfl)), hs.at h.gens (hd _ (.inr (.inl rfl))), hs.at h.isb (hd _ (.inr (.inr (.inl rfl)))), own_later h.free fun _ _ hg hb => hs.at hb (hd _ (.inr (.inr (.inr hg)))), h.ok, h.small, h.old, h.low, h.apart, h.nz⟩
theorem Rr.later (h : Rr B W ub gb ib fv t r) (hb : Below W.heap.size W W') : Rr B W' ub gb ib fv t r := h.kept (T := fun _ => False) (St.of_below hb) (fun _ _ q => q)
theorem Rr.lt (h : Rr B W ub gb ib fv t r) (k : Nat) (hk : Fu ub gb ib fv k) : B ≤ k ∧ k < W.heap.size := by
 have lt := fun {k : Nat} {o : Obj} (h : W.heap[k]? = some o) => (Array.getElem?_eq_some_iff.1 h).1
 rcases hk with rfl | rfl | rfl | hk
 ·exact ⟨h.low.1, lt h.box⟩
 ·exact ⟨h.low.2.1, lt h.gens⟩
 ·exact ⟨h.low.2.2, lt h.isb⟩
 ·exact h.free.lt k hk
theorem Rr.ne_ug (h : Rr B W ub gb ib fv t r) : ub ≠ gb := fun e => by have h1 := h.box; rw [e, h.gens] at h1; simp at h1
theorem Rr.ne_ui (h : Rr B W ub gb ib fv t r) : ub ≠ ib := fun e => by have h1 := h.box; rw [e, h.isb] at h1; simp at h1
theorem Rr.ne_gi (h : Rr B W ub gb ib fv t r) : gb ≠ ib := fun e => by have h1 := h.gens; rw [e, h.isb] at h1; simp at h1
theorem Rr.ne_f (h : Rr B W ub gb ib fv t r) (k : Nat) (hk : fv.ownBlock = some k) : k ≠ ub ∧ k ≠ gb ∧ k ≠ ib := by
 rcases h.free.2 with ⟨h1, _⟩ | ⟨g, cap, cur, h1, h2, h3, h4⟩
 ·rw [h1] at hk; simp [Value.ownBlock] at hk
 ·rw [h1] at hk
  obtain rfl : g = k := by simpa [Value.ownBlock] using hk
  refine ⟨fun e => ?_, fun e => h.apart (by rw [h1, ← e]; rfl), fun e => ?_⟩
  ·rw [e, h.box] at h3; simp at h3
  ·rw [e, h.isb] at h3; simp at h3
theorem Rr.few (h : Rr B W ub gb ib fv t r) : r.free.length ≤ r.gens.length := by
 have h1 := RS.upto_count h.ok.1 r.gens.length
 have h2 : (r.free.filter fun x => decide (x < r.gens.length)) = r.free := List.filter_eq_self.2 fun x hx => by simpa using h.ok.2 x hx
 rw [h2] at h1
 omega
theorem Rr.c0 (h : Rr B W ub gb ib fv t r) : W.cell? ⟨ub, 0, none⟩ = some (.slice (some ⟨gb, 0, none⟩) r.gens.length r.gens.length) := cell_blk h.box rfl
theorem Rr.c1 (h : Rr B W ub gb ib fv t r) : W.cell? ⟨ub, 1, none⟩ = some (.slice (some ⟨ib, 0, none⟩) r.gens.length r.gens.length) := cell_blk h.box rfl
theorem Rr.c2 (h : Rr B W ub gb ib fv t r) : W.cell? ⟨ub, 2, none⟩ = some fv := cell_blk h.box rfl
theorem Rr.cg (h : Rr B W ub gb ib fv t r) {k : Nat} (hk : k < r.gens.length) : W.cell? ⟨gb, k, none⟩ = some (.int .i64 ((r.gens.getD k 0 : Nat) : Int)) := by
 refine cell_blk h.gens ?_
 simp [gI, hk, List.getD_eq_getElem?_getD]
theorem Rr.ci (h : Rr B W ub gb ib fv t r) {k : Nat} (hk : k < r.gens.length) : W.cell? ⟨ib, k, none⟩ = some (.bool (decide (k ∉ r.free))) := by
 refine cell_blk h.isb ?_
 have := RS.isL_at hk
 simp [this]
end
theorem alive_split {r : RS} {k : Nat} (g : Int) (hk : k < r.gens.length) : r.aliveB (k : Int) g = (decide (k ∉ r.free) && (((r.gens.getD k 0 : Nat) : Int) == g)) := by
 have h1 : r.gens[k]? = some (r.gens.getD k 0) := by rw [List.getD_eq_getElem?_getD, List.getElem?_eq_getElem hk]; rfl
 generalize r.gens.getD k 0 = m at *
 rw [Bool.eq_iff_iff, RS.aliveB_iff, Bool.and_eq_true, decide_eq_true_iff, beq_iff_eq, Int.toNat_natCast, h1]
 simp only [Option.some.injEq]
 constructor
 ·rintro ⟨_, b, c, d⟩; exact ⟨c, by omega⟩
 ·rintro ⟨c, d⟩; exact ⟨by omega, by omega, c, by omega⟩
theorem alive_out {r : RS} {i g : Int} (h : i < 0 ∨ (r.gens.length : Int) ≤ i) : r.aliveB i g = false := by
 rw [Bool.eq_false_iff]
 intro ha
 obtain ⟨a, b, c, d⟩ := (RS.aliveB_iff _ _ _).1 ha
 have := (List.getElem?_eq_some_iff.1 d).1
 omega
set_option maxHeartbeats 1600000 in
set_option maxRecDepth 100000 in
theorem ralive_any {B : Nat} {W : World} {ub gb ib t : Nat} {fv : Value} {r : RS} (h : Rr B W ub gb ib fv t r) (i g : Int) :
  Calls Tryz.prog 41 #[.pointer (some ⟨ub, 0, none⟩), .agg #[.int .i64 i, .int .i64 g]] W fun e W' => e = .returned (.bool (r.aliveB i g)) ∧ Below W.heap.size W W' := by
 have h1 := h.later (bAl W (.cells #[.int .i64 i, .int .i64 g] 43))
 obtain ⟨d0, d1⟩ := cell_new2 W (.int .i64 i) (.int .i64 g) 43
 have c0 := h.c0
 have c1 := h.c1
 have l1 : ub < W.heap.size := (h.lt ub (.inl rfl)).2
 have l2 : gb < W.heap.size := (h.lt gb (.inr (.inl rfl))).2
 have l3 : ib < W.heap.size := (h.lt ib (.inr (.inr (.inl rfl)))).2
 have n1 : ¬ (ub = W.heap.size) := by omega
 have n2 : ¬ (gb = W.heap.size) := by omega
 have n3 : ¬ (ib = W.heap.size) := by omega
 by_cases hi0 : i < 0
 ·rw [alive_out (.inl hi0)]
  have hd : decide (0 ≤ i) = false := by simpa using hi0
  clear h h1 d0 d1
  go_enter Tryz.func41, Tryz.ntmps41
  go_wp2_with fail
  go_quiet (fail)
  go_wp2_with fail
  go_ret
  exact ⟨rfl, (bAl _ _).trans (drewN_below _ _ _)⟩
 ·by_cases hin : (r.gens.length : Int) ≤ i
  ·rw [alive_out (.inr hin)]
   have hd : decide (0 ≤ i) = true := by simp; omega
   have hd2 : decide (i < (r.gens.length : Int)) = false := by simp; omega
   clear h h1 d0 d1
   go_enter Tryz.func41, Tryz.ntmps41
   go_wp2_with fail
   go_quiet (fail)
   go_wp2_with fail
   go_ret
   exact ⟨rfl, (bAl _ _).trans (drewN_below _ _ _)⟩
  ·obtain ⟨k, rfl⟩ := Int.eq_ofNat_of_zero_le (show 0 ≤ i by omega)
   have hk : k < r.gens.length := by omega
   have hki : (k : Int) < (r.gens.length : Int) := by omega
   rw [alive_split g hk]
   have hd : decide (0 ≤ (k : Int)) = true := by simp
   have hd2 : decide ((k : Int) < (r.gens.length : Int)) = true := by simp; omega
   have x1 := h.ci hk
   have x2 := h.cg hk
   have hsm : (r.gens.length : Int) ≤ 64 := by have := h.small; omega
   generalize r.gens.getD k 0 = m at *
   by_cases hf : k ∈ r.free
   ·have hq : decide (k ∉ r.free) = false := by simpa using hf
    rw [hq] at x1 ⊢
    clear h h1 d0 d1 hf hq
    go_enter Tryz.func41, Tryz.ntmps41
    go_wp2_with fail
    go_quiet (fail)
    go_wp2_with fail
    go_ret
    exact ⟨rfl, (bAl _ _).trans (drewN_below _ _ _)⟩
   ·have hq : decide (k ∉ r.free) = true := by simpa using hf
    rw [hq] at x1 ⊢
    clear h h1 d0 d1 hf hq
    rw [Bool.true_and]
    go_enter Tryz.func41, Tryz.ntmps41
    go_wp2_with fail
    go_quiet (fail)
    go_wp2_with fail
    go_ret
    exact ⟨rfl, (bAl _ _).trans (drewN_below _ _ _)⟩
set_option maxHeartbeats 800000 in
set_option maxRecDepth 100000 in
theorem rtake_full {B : Nat} {W : World} {ub gb ib t : Nat} {fv : Value} {r : RS} (h : Rr B W ub gb ib fv t r) (hf : r.free = []) :
  Calls Tryz.prog 70 #[.pointer (some ⟨ub, 0, none⟩)] W fun e W' => e = .returned (.tuple #[.agg #[.int .i64 0, .int .i64 0], .int .i64 6]) ∧ Below W.heap.size W W' := by
 have c1 := h.c2
 have hrl := World.block_lt_of_cell? W _ c1
 have hrn := World.new_ne W _ c1
 obtain ⟨fa, fc, rfl⟩ := own_slice h.free
 rw [hf] at c1
 have HH := hid (heap_alloc_new W (.cells #[.int .i64 0, .int .i64 0] 43))
 have d0 := cell_blk HH.out (j := 0) rfl
 have d1 := cell_blk HH.out (j := 1) rfl
 have f0 := blk_free HH.out 0
 have f1 := blk_free HH.out 1
 clear h hf
 go_enter Tryz.func70, Tryz.ntmps70
 go_wp2_with fail
 exact bodyPost_ret (v := .tuple #[.agg #[.int .i64 0, .int .i64 0], .int .i64 6]) (by simp [results, Tryz.results70, go_sem]) rfl ⟨rfl, bAl _ _⟩
theorem RS.took_is {r : RS} {f : List Nat} {i : Nat} (h : r.ok) (hf : r.free = f ++ [i]) : (r.took i).isL = r.isL.set i true := by
 obtain ⟨h1, h2⟩ := h
 rw [hf] at h1 h2
 have hi := h2 i (by simp)
 have hn : i ∉ f := fun hm => (List.nodup_append.1 h1).2.2 i hm i (by simp) rfl
 apply List.ext_getElem?
 intro j
 rw [List.getElem?_set]
 have hl : (r.took i).gens.length = r.gens.length := RS.took_len r i
 by_cases hj : j < r.gens.length
 ·rw [RS.isL_at (r := r.took i) (by omega)]
  by_cases e : i = j
  ·subst e
   simp [RS.isL_len, hj, RS.took, hf, hn]
  ·rw [if_neg e, RS.isL_at hj]
   simp only [RS.took, hf, List.dropLast_concat, List.mem_append, List.mem_singleton]
   have : j ≠ i := fun q => e q.symm
   simp [this]
 ·have e1 : (r.took i).isL[j]? = none := List.getElem?_eq_none (by rw [RS.isL_len]; omega)
  have e2 : r.isL[j]? = none := List.getElem?_eq_none (by rw [RS.isL_len]; omega)
  rw [e1, e2]
  split
  ·rename_i e; rw [if_neg (by rw [RS.isL_len]; omega)]
  ·rfl
theorem bools_set (l : List Bool) (i : Nat) (b : Bool) : (l.map Value.bool).toArray.setIfInBounds i (.bool b) = ((l.set i b).map Value.bool).toArray := by
 rw [List.map_set]
 simp
theorem Rr.took {B : Nat} {W : World} {ub gb ib t fb fc : Nat} {f : List Nat} {i : Nat} {r : RS} (h : Rr B W ub gb ib (.slice (some ⟨fb, 0, none⟩) r.free.length fc) t r) (hf : r.free = f ++ [i]) :
  Rr B (((W.setCell ⟨ub, 2, none⟩ (.slice (some ⟨fb, 0, none⟩) f.length fc)).setCell ⟨gb, i, none⟩ (.int .i64 ((r.gens.getD i 0 : Nat) + 1 : Int))).setCell ⟨ib, i, none⟩ (.bool true)) ub gb ib (.slice (some ⟨fb, 0, none⟩) f.length fc) (t + 1) (r.took i) ∧
  St (Fu ub gb ib (.slice (some ⟨fb, 0, none⟩) r.free.length fc)) W (((W.setCell ⟨ub, 2, none⟩ (.slice (some ⟨fb, 0, none⟩) f.length fc)).setCell ⟨gb, i, none⟩ (.int .i64 ((r.gens.getD i 0 : Nat) + 1 : Int))).setCell ⟨ib, i, none⟩ (.bool true)) := by
 have hfl : r.free.length = f.length + 1 := by rw [hf]; simp
 have n1 := h.ne_ug
 have n2 := h.ne_ui
 have n3 := h.ne_gi
 obtain ⟨n4, n5, n6⟩ := h.ne_f fb rfl
 have hi : i < r.gens.length := h.ok.2 i (by rw [hf]; simp)
 have hgt : r.gens.getD i 0 ≤ t := by rw [List.getD_eq_getElem?_getD, List.getElem?_eq_getElem hi]; exact h.old _ (List.getElem_mem hi)
 have hg1 : (r.took i).gens = r.gens.set i (r.gens.getD i 0 + 1) := rfl
 have hf1 : (r.took i).free = f := by simp [RS.took, hf]
 have B1 : (W.setCell ⟨ub, 2, none⟩ (.slice (some ⟨fb, 0, none⟩) f.length fc)).heap[ub]? = some (.cells #[.slice (some ⟨gb, 0, none⟩) r.gens.length r.gens.length, .slice (some ⟨ib, 0, none⟩) r.gens.length r.gens.length, .slice (some ⟨fb, 0, none⟩) f.length fc] 168 (0, 0)) := heap_setCell_same W ub 2 _ 168 _ h.box
 have G1 : (W.setCell ⟨ub, 2, none⟩ (.slice (some ⟨fb, 0, none⟩) f.length fc)).heap[gb]? = some (.cells (r.gens.map gI).toArray 3 (0, 0)) := (Below.heap_setCell _ _ _ _ (fun e => n1 e.symm)).trans h.gens
 refine ⟨⟨?_, ?_, ?_, ?_, h.ok.took hf, ?_, ?_, h.low, ?_, fun _ => ⟨fb, rfl⟩⟩, ?_⟩
 ·rw [Below.heap_setCell _ _ _ _ n2, Below.heap_setCell _ _ _ _ n1, B1, hg1]; simp
 ·rw [Below.heap_setCell _ _ _ _ n3, heap_setCell_same _ gb i _ 3 _ G1, hg1, gens_set]
 ·have I1 : ((W.setCell ⟨ub, 2, none⟩ (.slice (some ⟨fb, 0, none⟩) f.length fc)).setCell ⟨gb, i, none⟩ (.int .i64 ((r.gens.getD i 0 : Nat) + 1 : Int))).heap[ib]? = some (.cells (r.isL.map Value.bool).toArray 4 (0, 0)) := by
   rw [Below.heap_setCell _ _ _ _ (fun e => n3 e.symm), Below.heap_setCell _ _ _ _ (fun e => n2 e.symm)]; exact h.isb
  rw [heap_setCell_same _ ib i _ 4 _ I1, bools_set, RS.took_is h.ok hf]
 ·rw [hf1]
  have h0 := h.free
  rw [hfl, hf] at h0
  refine own_later (own_shrink h0) fun k cur hk hb => ?_
  obtain rfl : fb = k := by simpa [Value.ownBlock] using hk
  rw [Below.heap_setCell _ _ _ _ n6, Below.heap_setCell _ _ _ _ n5, Below.heap_setCell _ _ _ _ n4, hb]
 ·rw [hg1, List.length_set]; exact h.small
 ·intro g hg
  rw [hg1] at hg
  rcases List.mem_or_eq_of_mem_set hg with hg | rfl
  ·have := h.old g hg; omega
  ·omega
 ·exact fun e => h.apart (by simpa [Value.ownBlock] using e)
 ·have S1 : St (Fu ub gb ib (.slice (some ⟨fb, 0, none⟩) r.free.length fc)) W (W.setCell ⟨ub, 2, none⟩ (.slice (some ⟨fb, 0, none⟩) f.length fc)) := St.setCell _ (.inl rfl)
  refine (S1.trans (St.setCell (S := Fu ub gb ib (.slice (some ⟨fb, 0, none⟩) r.free.length fc)) (p := ⟨gb, i, none⟩) _ (.inr (.inl rfl))) fun _ _ q => q).trans (St.setCell (S := Fu ub gb ib (.slice (some ⟨fb, 0, none⟩) r.free.length fc)) (p := ⟨ib, i, none⟩) _ (.inr (.inr (.inl rfl)))) fun _ _ q => q
set_option maxHeartbeats 1600000 in
set_option maxRecDepth 100000 in
theorem rtake_some {B : Nat} {W : World} {ub gb ib t : Nat} {fv : Value} {f : List Nat} {i : Nat} {r : RS} (h : Rr B W ub gb ib fv t r) (hf : r.free = f ++ [i]) (ht : t ≤ 1000) :
  Calls Tryz.prog 70 #[.pointer (some ⟨ub, 0, none⟩)] W fun e W' => e = .returned (.tuple #[.agg #[.int .i64 i, .int .i64 ((r.gens.getD i 0 : Nat) + 1 : Int)], .int .i64 0]) ∧ ∃ fv', Rr B W' ub gb ib fv' (t + 1) (r.took i) ∧ fv'.ownBlock = fv.ownBlock ∧ St (Fu ub gb ib fv) W W' := by
 have hfl : r.free.length = f.length + 1 := by rw [hf]; simp
 obtain ⟨fa, fc, rfl⟩ := own_slice h.free
 have ho := h.free
 obtain ⟨fb, rfl, hfB, hfW⟩ := own_some ho (by omega)
 have HT := hid (h.took hf)
 have hi : i < r.gens.length := h.ok.2 i (by rw [hf]; simp)
 obtain ⟨m, hm⟩ : ∃ m, m = f.length := ⟨_, rfl⟩
 obtain ⟨g, hg⟩ : ∃ g, g = r.gens.getD i 0 := ⟨_, rfl⟩
 have hgt : g ≤ t := by rw [hg, List.getD_eq_getElem?_getD, List.getElem?_eq_getElem hi]; exact h.old _ (List.getElem_mem hi)
 have c0 := h.c0
 have c1 := h.c1
 have c2 := h.c2
 have cg := h.cg hi
 have ci := h.ci hi
 have cf : W.cell? ⟨fb, m, none⟩ = some (.int .i64 (i : Int)) := by
  rw [ho.cellAt m (by omega), hf, hm]; simp [gI]
 have fr1 := blk_free h.box 2
 have frg := blk_free h.gens i
 have fri := blk_free h.isb i
 have n1 := h.ne_ug
 have n2 := h.ne_ui
 have n3 := h.ne_gi
 obtain ⟨n4, n5, n6⟩ := h.ne_f fb rfl
 have l1 : ub < W.heap.size := (h.lt ub (.inl rfl)).2
 have l2 : gb < W.heap.size := (h.lt gb (.inr (.inl rfl))).2
 have l3 : ib < W.heap.size := (h.lt ib (.inr (.inr (.inl rfl)))).2
 have l4 : fb < W.heap.size := hfW
 have m1 : ¬ (ub = W.heap.size) := by omega
 have m2 : ¬ (gb = W.heap.size) := by omega
 have m3 : ¬ (ib = W.heap.size) := by omega
 have m4 : ¬ (fb = W.heap.size) := by omega
 have n1' : ¬ (gb = ub) := fun e => n1 e.symm
 have n2' : ¬ (ib = ub) := fun e => n2 e.symm
 have n3' : ¬ (ib = gb) := fun e => n3 e.symm
 have n4' : ¬ (ub = fb) := fun e => n4 e.symm
 have n5' : ¬ (gb = fb) := fun e => n5 e.symm
 have n6' : ¬ (ib = fb) := fun e => n6 e.symm
 have hsm := h.small
 have hfw := h.few
 obtain ⟨n, hn⟩ : ∃ n, n = r.gens.length := ⟨_, rfl⟩
 rw [hfl, ← hm] at c2
 rw [← hn] at c0 c1 hi hsm hfw
 rw [← hg] at cg
 have hii : (i : Int) < (n : Int) := by omega
 have hn64 : (n : Int) ≤ 64 := by omega
 have hm64 : (m : Int) ≤ 64 := by omega
 have hmc : (m : Int) + 1 ≤ (fc : Int) := by
  rcases ho.2 with ⟨h1, _⟩ | ⟨_, _, _, h1, _, _, h4, _⟩
  ·simp at h1
  ·simp at h1; omega
 have hgi : (g : Int) ≤ 1000 := by omega
 have hmz : ((m : Int) + 1 == 0) = false := by rw [beq_eq_false_iff_ne]; omega
 rw [← hm, ← hg] at HT
 generalize decide (i ∉ r.free) = b at *
 have HM := hid hm
 have HG := hid hg
 clear h hf hfl ho hm hg hn hfw
 go_enter Tryz.func70, Tryz.ntmps70
 go_wp2_with fail
 obtain ⟨hR, hS⟩ := HT.out
 exact bodyPost_ret (v := .tuple #[.agg #[.int .i64 i, .int .i64 ((g : Int) + 1)], .int .i64 0]) (by simp [results, Tryz.results70, go_sem]) rfl ⟨by rw [HG.out], _, hR.later (bAl _ _), rfl, hS.trans (St.of_below (S := Fu ub gb ib (.slice (some ⟨fb, 0, none⟩) r.free.length fc)) (bAl _ _)) fun _ _ q => q⟩
theorem wpList_row {ops : Array Oper} {rest : List Oper} {o : Oper} {a : Act} {Q : Exit → Act → World → Prop} (hgd : o.guard = none) (s x : Operand)
  (ho : o.op = .call { callee := .builtin .append, args := #[s, x], argTypes := #[113, 113] }) {B ub : Nat} {wc : World} {fv : Value} {f : List Nat} {k : Nat} (hown : wc.ownsRow B 3 1 fv f.length (f.map gI)) (hl : f.length ≤ 1000) (hB : B ≤ wc.heap.size)
  {cs : Array Value} {bt : TypeId} {ix : Nat} (hbox : wc.heap[ub]? = some (.cells cs bt (0, 0))) (hcs : cs[ix]? = some fv) (hne : fv.ownBlock ≠ some ub)
  (hs : a.eval s = fv) (hx : a.eval x = .slice (some ⟨wc.heap.size, 0, none⟩) 1 1)
  (h : ∀ g' cap w2, Hid (Grew B fv (f ++ [k]) wc (.slice (some ⟨g', 0, none⟩) (f.length + 1) cap) w2) → w2.cell? ⟨ub, ix, none⟩ = some fv → w2.frozen? ⟨ub, ix, none⟩ = false → wpList Tryz.prog ops Q rest (a.put o.dst (.slice (some ⟨g', 0, none⟩) (f.length + 1) cap)) w2) :
  wpList Tryz.prog ops Q (o :: rest) a (wc.alloc (.cells #[.int .i64 (k : Int)] 3)) := by
 obtain ⟨i0, hi, hz0, hz1, hz2⟩ := info_parts infoInt
 have hb : Below wc.heap.size wc (wc.alloc (.cells #[.int .i64 (k : Int)] 3)) := bAl _ _
 have ho2 : (wc.alloc (.cells #[.int .i64 (k : Int)] 3)).ownsRow B 3 1 fv f.length (f.map gI) := hown.alloc _
 have hz : (wc.alloc (.cells #[.int .i64 (k : Int)] 3)).heap.size = wc.heap.size + 1 := by simp
 refine wpList_append_lies _ hgd s x 113 ho B 3 i0 (.int .i64 0) 1 8 Tryz.underlying113 hi hz0 hz1 hz2 rfl (by decide) fv f.length (f.map gI) hs ho2 ⟨wc.heap.size, 0, none⟩ 1 1 [gI k] hx rfl (fun j u hu => by
  rw [add_at]
  match j, hu with
  | 0, hu =>
   simp at hu
   subst hu
   exact new_cell wc _ 3
  | j + 1, hu => simp at hu) (by intro u hu; simp at hu; subst hu; rfl) (by decide) (by unfold maxLen; omega) (by omega) (by omega) (wc.heap.size + 1) hz ?_
 intro g' cap w2 ow hg hat hlt
 have st : St (fun x => fv.ownBlock = some x) wc w2 := (St.of_below hb).trans (St.of_grown (S := fun x => fv.ownBlock = some x) hg fun k e => e) fun _ _ q => q
 have hbx := st.at hbox hne
 refine h g' cap w2 ⟨?_, st, ?_⟩ (cell_blk hbx hcs) (blk_free hbx ix)
 ·have e : (f ++ [k]).length = f.length + 1 := by simp
  rw [e, List.map_append]
  exact ow
 ·rcases hat with h1 | h1
  ·exact .inl (by rw [h1]; rfl)
  ·exact .inr ⟨g', rfl, by omega⟩
theorem made_bools (n : Nat) : madeCells (Value.bool false).cells (n * 1) = ((List.replicate n false).map Value.bool).toArray := by
 apply Array.ext_getElem?
 intro j
 by_cases hj : j < n
 ·simp [madeCells, Value.cells, hj, Nat.mod_one]
 ·simp [madeCells, Value.cells, hj]
theorem run_mkb (W : World) (n : Nat) (hn : n ≤ 64) : (Instr.makeSlice 166 (.int .i64 (n : Int)) (.int .i64 (n : Int))).run Tryz.prog W = .ok (.slice (some ⟨W.heap.size, 0, none⟩) n n) (W.alloc (.cells ((List.replicate n false).map Value.bool).toArray 4)) := by
 obtain ⟨i0, hi, hz0, hz1, hz2⟩ := info_parts infoBool
 have h := run_makeSlice (P := Tryz.prog) W 166 4 i0 (.bool false) Tryz.underlying166 hi hz0 .i64 .i64 (n : Int) (n : Int) (by omega) (by omega) (by rw [hz1]; simp; omega) (by rw [hz2]; omega) (by omega)
 rw [hz1, Int.toNat_natCast, made_bools] at h
 exact h
structure Mr (B : Nat) (W : World) (ub gb ib n : Nat) (fv : Value) (l : List Nat) (wr : World) : Prop where
 box : wr.heap[ub]? = some (.cells #[.slice (some ⟨gb, 0, none⟩) n n, .slice (some ⟨ib, 0, none⟩) n n, fv] 168 (0, 0))
 gens : wr.heap[gb]? = some (.cells ((List.replicate n 0).map gI).toArray 3 (0, 0))
 isb : wr.heap[ib]? = some (.cells ((List.replicate n false).map Value.bool).toArray 4 (0, 0))
 free : wr.ownsRow B 3 1 fv l.length (l.map gI)
 low : B ≤ ub ∧ B ≤ gb ∧ B ≤ ib
 apart : ∀ x, fv.ownBlock = some x → x ≠ ub ∧ x ≠ gb ∧ x ≠ ib
 two : ub ≠ gb ∧ ub ≠ ib
 nz : 0 < l.length → ∃ g, fv.ownBlock = some g
 bel : Below B W wr
theorem Mr.next {B : Nat} {W wr w2 : World} {ub gb ib n k g' cap m : Nat} {fv : Value} {l : List Nat} (h : Mr B W ub gb ib n fv l wr) (hB : B ≤ wr.heap.size) (g : Grew B fv (l ++ [k]) wr (.slice (some ⟨g', 0, none⟩) m cap) w2) : Mr B W ub gb ib n (.slice (some ⟨g', 0, none⟩) m cap) (l ++ [k]) (w2.setCell ⟨ub, 2, none⟩ (.slice (some ⟨g', 0, none⟩) m cap)) := by
 have lt := fun {k : Nat} {o : Obj} (h : wr.heap[k]? = some o) => (Array.getElem?_eq_some_iff.1 h).1
 have l1 := lt h.box
 have l2 := lt h.gens
 have l3 := lt h.isb
 have hap : ∀ x, (Value.slice (some ⟨g', 0, none⟩) m cap).ownBlock = some x → x ≠ ub ∧ x ≠ gb ∧ x ≠ ib := fun x hx => by
  rcases g.at' with h1 | ⟨y, h1, h2⟩
  ·exact h.apart x (h1 ▸ hx)
  ·rw [h1] at hx; simp at hx; omega
 refine ⟨?_, ?_, ?_, ?_, h.low, hap, h.two, fun _ => ⟨g', rfl⟩, ?_⟩
 ·exact heap_setCell_same _ ub 2 _ 168 _ (g.st.at h.box fun e => (h.apart ub e).1 rfl)
 ·exact (Below.heap_setCell _ _ _ _ (fun e => h.two.1 e.symm)).trans (g.st.at h.gens fun e => (h.apart gb e).2.1 rfl)
 ·exact (Below.heap_setCell _ _ _ _ (fun e => h.two.2 e.symm)).trans (g.st.at h.isb fun e => (h.apart ib e).2.2 rfl)
 ·exact own_later g.own fun x cur hx hb => (Below.heap_setCell _ _ _ _ (hap x hx).1).trans hb
 ·have s1 : Below B wr w2 := g.st.below (fun x hx => (h.free.lt x hx).1) hB
  exact (h.bel.trans s1).setCell h.low.1 _
theorem fresh_is (n : Nat) : (RS.fresh n).isL = List.replicate n false := by
 apply List.ext_getElem?
 intro j
 by_cases hj : j < n
 ·rw [RS.isL_at (by simpa [RS.fresh] using hj)]
  simp [RS.fresh, hj]
 ·rw [List.getElem?_eq_none (by rw [RS.isL_len]; simp [RS.fresh]; omega), List.getElem?_eq_none (by simp; omega)]
theorem Mr.roll {W wr : World} {ub gb ib n : Nat} {fv : Value} (h : Mr W.heap.size W ub gb ib n fv (List.range n).reverse wr) (hn : n ≤ 64) : Rr W.heap.size wr ub gb ib fv 0 (RS.fresh n) := by
 refine ⟨?_, h.gens, ?_, h.free, ⟨?_, ?_⟩, ?_, ?_, h.low, fun e => (h.apart gb e).2.1 rfl, fun h0 => h.nz (by simpa [RS.fresh] using h0)⟩
 ·simpa [RS.fresh] using h.box
 ·rw [fresh_is]; exact h.isb
 ·exact (List.reverse_perm (List.range n)).nodup_iff.2 List.nodup_range
 ·intro i hi
  simpa [RS.fresh] using hi
 ·simpa [RS.fresh] using hn
 ·intro g hg
  simp [RS.fresh] at hg
  omega
set_option maxHeartbeats 400000 in
theorem rnew_low (W : World) (n : Int) (hn : n < 0) : Calls Tryz.prog 54 #[.int .i64 n] W fun e W' => e = .returned (.pointer none) ∧ W' = W := by
 go_enter Tryz.func54, Tryz.ntmps54
 go_wp2
 go_ret
 exact ⟨rfl, rfl⟩
set_option maxHeartbeats 400000 in
theorem rnew_high (W : World) (n : Int) (hn : 64 < n) : Calls Tryz.prog 54 #[.int .i64 n] W fun e W' => e = .returned (.pointer none) ∧ W' = W := by
 have h0 : ¬ (n < 0) := by omega
 go_enter Tryz.func54, Tryz.ntmps54
 go_wp2
 go_ret
 exact ⟨rfl, rfl⟩
set_option maxHeartbeats 1600000 in
set_option maxRecDepth 100000 in
theorem rnew_some (W : World) (n : Nat) (hn : n ≤ 64) :
  Calls Tryz.prog 54 #[.int .i64 (n : Int)] W fun e W' => ∃ ub gb ib fv, e = .returned (.pointer (some ⟨ub, 0, none⟩)) ∧ Rr W.heap.size W' ub gb ib fv 0 (RS.fresh n) ∧ Below W.heap.size W W' := by
 have h0 : ¬ ((n : Int) < 0) := by omega
 have h1 : ¬ (64 < (n : Int)) := by omega
 have h2 : (n : Int) ≤ 64 := by omega
 obtain ⟨k1, e1⟩ : ∃ k1, k1 = ((List.replicate n 0).map gI).toArray := ⟨_, rfl⟩
 obtain ⟨k2, e2⟩ : ∃ k2, k2 = ((List.replicate n false).map Value.bool).toArray := ⟨_, rfl⟩
 have hm1 := fun W => run_mk W n hn
 have hm2 := fun W => run_mkb W n hn
 rw [← e1] at hm1
 rw [← e2] at hm2
 have M0 : Hid (Mr W.heap.size W (W.heap.size + 2) W.heap.size (W.heap.size + 1) n (.slice none 0 0) [] ((((W.alloc (.cells k1 3)).alloc (.cells k2 4)).alloc (.cells #[.slice (some ⟨W.heap.size, 0, none⟩) n n, .slice (some ⟨W.heap.size + 1, 0, none⟩) n n, .slice none 0 0] 168)).drew)) := by
  refine ⟨?_, ?_, ?_, World.ownsRow_nil _ _ _ _, by omega, fun x hx => by simp [Value.ownBlock] at hx, by omega, fun h => by simp at h, ?_⟩
  ·have := heap_alloc_new ((W.alloc (.cells k1 3)).alloc (.cells k2 4)) (.cells #[.slice (some ⟨W.heap.size, 0, none⟩) n n, .slice (some ⟨W.heap.size + 1, 0, none⟩) n n, .slice none 0 0] 168)
   rw [World.size_alloc, World.size_alloc] at this
   exact this
  ·rw [← e1]
   exact (Below.heap_alloc _ _ _ (by simp; omega)).trans ((Below.heap_alloc _ _ _ (by simp)).trans (heap_alloc_new W _))
  ·rw [← e2]
   have := heap_alloc_new (W.alloc (.cells k1 3)) (.cells k2 4)
   rw [World.size_alloc] at this
   exact (Below.heap_alloc _ _ _ (by simp)).trans this
  ·exact ((((Below.refl _ _).alloc (Nat.le_refl _) _).alloc (by simp) _).alloc (by simp; omega) _).drew
 have M1 : Hid (Mr W.heap.size W (W.heap.size + 2) (W.heap.size + 1) W.heap.size n (.slice none 0 0) [] ((((W.alloc (.cells k2 4)).alloc (.cells k1 3)).alloc (.cells #[.slice (some ⟨W.heap.size + 1, 0, none⟩) n n, .slice (some ⟨W.heap.size, 0, none⟩) n n, .slice none 0 0] 168)).drew)) := by
  refine ⟨?_, ?_, ?_, World.ownsRow_nil _ _ _ _, by omega, fun x hx => by simp [Value.ownBlock] at hx, by omega, fun h => by simp at h, ?_⟩
  ·have := heap_alloc_new ((W.alloc (.cells k2 4)).alloc (.cells k1 3)) (.cells #[.slice (some ⟨W.heap.size + 1, 0, none⟩) n n, .slice (some ⟨W.heap.size, 0, none⟩) n n, .slice none 0 0] 168)
   rw [World.size_alloc, World.size_alloc] at this
   exact this
  ·rw [← e1]
   have := heap_alloc_new (W.alloc (.cells k2 4)) (.cells k1 3)
   rw [World.size_alloc] at this
   exact (Below.heap_alloc _ _ _ (by simp)).trans this
  ·rw [← e2]
   exact (Below.heap_alloc _ _ _ (by simp; omega)).trans ((Below.heap_alloc _ _ _ (by simp)).trans (heap_alloc_new W _))
  ·exact ((((Below.refl _ _).alloc (Nat.le_refl _) _).alloc (by simp) _).alloc (by simp; omega) _).drew
 clear e1 e2
 go_enter Tryz.func54, Tryz.ntmps54
 go_wp2_with fail
 go_region
 ·clear hm1 hm2
  go_wp2_with fail
  go_loopw [4] (fun i wr => ∃ (j : Nat) (z : Int), j ≤ n ∧ Hid (z = (j : Int) - 1) ∧ i = .int .i64 z ∧ ∃ fv, Hid (Mr W.heap.size W (W.heap.size + 2) W.heap.size (W.heap.size + 1) n fv ((List.range n).drop j).reverse wr)) (fun i _ => (intOf i + 1).toNat)
  case atStart => exact ⟨n, _, Nat.le_refl _, rfl, rfl, _, by rw [List.drop_of_length_le (by simp)]; exact M0.out⟩
  case round =>
   obtain ⟨j, z, hj, HZ, rfl, fv, HM⟩ := hrel
   clear M0 M1
   by_cases hlt : 0 < j
   ·obtain ⟨q, rfl⟩ : ∃ q, j = q + 1 := ⟨j - 1, by omega⟩
    obtain rfl : z = (q : Int) := by have := HZ.out; omega
    clear HZ
    have hqi : (0 : Int) ≤ (q : Int) := by omega
    have hq64 : (q : Int) ≤ 64 := by omega
    have hfl : ((List.range n).drop (q + 1)).reverse.length ≤ 1000 := by simp; omega
    have x1 := cell_blk HM.out.box (j := 2) rfl
    have hrl : W.heap.size + 2 < wr.heap.size := World.block_lt_of_cell? wr _ x1
    have hrn : ¬ (W.heap.size + 2 = wr.heap.size) := by omega
    have RD := hid (range_drop n q (by omega))
    obtain ⟨l, hl⟩ : ∃ l, l = ((List.range n).drop (q + 1)).reverse := ⟨_, rfl⟩
    rw [← hl] at HM hfl RD
    clear hl
    obtain ⟨fa, fc, rfl⟩ := own_slice HM.out.free
    go_wp2_with (at_builtin; refine wpList_row rfl _ _ rfl HM.out.free hfl (by omega) HM.out.box (ix := 2) rfl (fun e => (HM.out.apart _ e).1 rfl) rfl rfl ?_; intro g' cap w2 hgr hx5 hf5)
    exact ⟨⟨q, _, by omega, rfl, rfl, _, by rw [RD.out]; exact HM.out.next (by omega) hgr.out⟩, by simp [intOf]⟩
   ·obtain rfl : j = 0 := by omega
    obtain rfl : z = -1 := by have := HZ.out; omega
    clear HZ
    go_wp2_with fail
    go_ret
    have hM := HM.out
    rw [List.drop_zero] at hM
    exact ⟨_, _, _, _, rfl, hM.roll hn, hM.bel⟩
 ·clear hm1 hm2
  go_wp2_with fail
  go_loopw [4] (fun i wr => ∃ (j : Nat) (z : Int), j ≤ n ∧ Hid (z = (j : Int) - 1) ∧ i = .int .i64 z ∧ ∃ fv, Hid (Mr W.heap.size W (W.heap.size + 2) (W.heap.size + 1) W.heap.size n fv ((List.range n).drop j).reverse wr)) (fun i _ => (intOf i + 1).toNat)
  case atStart => exact ⟨n, _, Nat.le_refl _, rfl, rfl, _, by rw [List.drop_of_length_le (by simp)]; exact M1.out⟩
  case round =>
   obtain ⟨j, z, hj, HZ, rfl, fv, HM⟩ := hrel
   clear M0 M1
   by_cases hlt : 0 < j
   ·obtain ⟨q, rfl⟩ : ∃ q, j = q + 1 := ⟨j - 1, by omega⟩
    obtain rfl : z = (q : Int) := by have := HZ.out; omega
    clear HZ
    have hqi : (0 : Int) ≤ (q : Int) := by omega
    have hq64 : (q : Int) ≤ 64 := by omega
    have hfl : ((List.range n).drop (q + 1)).reverse.length ≤ 1000 := by simp; omega
    have x1 := cell_blk HM.out.box (j := 2) rfl
    have hrl : W.heap.size + 2 < wr.heap.size := World.block_lt_of_cell? wr _ x1
    have hrn : ¬ (W.heap.size + 2 = wr.heap.size) := by omega
    have RD := hid (range_drop n q (by omega))
    obtain ⟨l, hl⟩ : ∃ l, l = ((List.range n).drop (q + 1)).reverse := ⟨_, rfl⟩
    rw [← hl] at HM hfl RD
    clear hl
    obtain ⟨fa, fc, rfl⟩ := own_slice HM.out.free
    go_wp2_with (at_builtin; refine wpList_row rfl _ _ rfl HM.out.free hfl (by omega) HM.out.box (ix := 2) rfl (fun e => (HM.out.apart _ e).1 rfl) rfl rfl ?_; intro g' cap w2 hgr hx5 hf5)
    exact ⟨⟨q, _, by omega, rfl, rfl, _, by rw [RD.out]; exact HM.out.next (by omega) hgr.out⟩, by simp [intOf]⟩
   ·obtain rfl : j = 0 := by omega
    obtain rfl : z = -1 := by have := HZ.out; omega
    clear HZ
    go_wp2_with fail
    go_ret
    have hM := HM.out
    rw [List.drop_zero] at hM
    exact ⟨_, _, _, _, rfl, hM.roll hn, hM.bel⟩
set_option maxHeartbeats 800000 in
set_option maxRecDepth 100000 in
theorem rfree_dead {B : Nat} {W : World} {ub gb ib t : Nat} {fv : Value} {r : RS} (h : Rr B W ub gb ib fv t r) (i g : Int) (ha : r.aliveB i g = false) :
  Calls Tryz.prog 75 #[.pointer (some ⟨ub, 0, none⟩), .agg #[.int .i64 i, .int .i64 g]] W fun e W' => e = .returned (.int .i64 17) ∧ Below W.heap.size W W' := by
 have BA := hid (bAl W (.cells #[.int .i64 i, .int .i64 g] 43))
 have AL := hid (ralive_any (h.later BA.out) i g)
 rw [ha] at AL
 clear h ha
 go_enter Tryz.func75, Tryz.ntmps75
 go_wp2_with fail
 refine AL.out.mono ?_
 rintro e w1 ⟨rfl, hb⟩
 have HB := hid (BA.out.trans (hb.mono BA.out.size))
 clear hb AL
 go_wp2_with fail
 go_ret
 exact ⟨rfl, HB.out⟩
set_option maxHeartbeats 1600000 in
set_option maxRecDepth 100000 in
theorem rlist_any {B : Nat} {W : World} {ub gb ib t : Nat} {fv : Value} {r : RS} (h : Rr B W ub gb ib fv t r) :
  Calls Tryz.prog 36 #[.pointer (some ⟨ub, 0, none⟩)] W fun e W' => ∃ v, e = .returned v ∧ Ents W.heap.size W' v r.all ∧ Below W.heap.size W W' := by
 have H := hid h
 have hn64 : (r.gens.length : Int) ≤ 64 := by have := h.small; omega
 obtain ⟨n, hn⟩ : ∃ n, n = r.gens.length := ⟨_, rfl⟩
 have HN := hid hn
 rw [← hn] at hn64
 have E0 : Hid (Ents W.heap.size (W.alloc (.cells #[] 43)) (.slice (some ⟨W.heap.size, 0, none⟩) 0 0) (r.upto 0)) := World.ownsRow_lit W #[] 0 (Nat.le_refl _) (Nat.zero_le _) rfl
 have B0 := hid (bAl W (.cells #[] 43))
 clear h hn
 go_enter Tryz.func36, Tryz.ntmps36
 go_wp2_with fail
 go_loopw [3, 4] (fun lv i wr => ∃ k : Nat, k ≤ n ∧ i = .int .i64 (k : Int) ∧ Hid (Ents W.heap.size wr lv (r.upto k)) ∧ Hid (Below W.heap.size W wr)) (fun _ i _ => n - (intOf i).toNat)
 case atStart => exact ⟨0, Nat.zero_le _, rfl, E0.out, B0.out⟩
 case round =>
  obtain ⟨k, hk, rfl, HL, HB⟩ := hrel
  clear E0 B0
  have R1 := hid (H.out.later HB.out)
  have c0 := R1.out.c0
  have c1 := R1.out.c1
  rw [← HN.out] at c0 c1
  by_cases hlt : k < n
  ·have hki : (k : Int) < (n : Int) := by omega
   have hkn : k < r.gens.length := by rw [← HN.out]; exact hlt
   have cg := R1.out.cg hkn
   have ci := R1.out.ci hkn
   have hul : (r.upto k).length ≤ 1000 := by have := r.upto_len k; omega
   have hw1 : W.heap.size ≤ wr.heap.size := HB.out.size
   obtain ⟨la, lc, rfl⟩ := Ents.slice HL.out
   by_cases hm : k ∈ r.free
   ·have e1 : decide (k ∉ r.free) = false := by simpa using hm
    rw [e1] at ci
    have e2 : Hid (r.upto (k + 1) = r.upto k) := by show r.upto (k + 1) = _; rw [RS.upto, if_pos hm]
    clear e1 hm
    go_wp2_with fail
    go_roundw
    case rel => exact ⟨k + 1, by omega, by go_num, by rw [e2.out]; exact HL.out, HB.out⟩
    case measure => simp [intOf]; omega
   ·have e1 : decide (k ∉ r.free) = true := by simpa using hm
    rw [e1] at ci
    have e2 : Hid (r.upto (k + 1) = r.upto k ++ [(k, r.gens.getD k 0)]) := by show r.upto (k + 1) = _; rw [RS.upto, if_neg hm]
    generalize r.gens.getD k 0 = g at *
    clear e1 hm
    go_wp2_with (at_builtin; refine wpList_ent rfl _ _ rfl HL.out hul hw1 rfl rfl ?_; intro v' w2 ho hst hat)
    have b2 : Hid (Below W.heap.size W w2) := HB.out.trans (hst.out.below (fun x hx => (World.ownsRow.lt HL.out x hx).1) hw1)
    exact ⟨⟨k + 1, by omega, by go_num, by rw [e2.out]; exact ho.out, b2.out⟩, by simp [intOf]; omega⟩
  ·have hki : ¬ ((k : Int) < (n : Int)) := by omega
   have e1 : Hid (r.upto k = r.all) := by show r.upto k = r.upto _; rw [← HN.out, show k = n by omega]
   go_wp2_with fail
   go_ret
   exact ⟨_, rfl, by rw [← e1.out]; exact HL.out, HB.out⟩
set_option maxHeartbeats 1600000 in
set_option maxRecDepth 100000 in
theorem same_any {B B' : Nat} {W : World} {v u : Value} {l : List (Nat × Nat)} (h : Ents B W v l) (h' : Ents B' W u l) (hl : l.length ≤ 1000) (hs : ∀ p ∈ l, p.1 ≤ 1000 ∧ p.2 ≤ 1000) :
  Calls Tryz.prog 29 #[v, u] W fun e W' => e = .returned (.bool true) ∧ Below W.heap.size W W' := by
 obtain ⟨va, vc, rfl⟩ := h.slice
 obtain ⟨ua, uc, rfl⟩ := h'.slice
 have H := hid h
 have H' := hid h'
 have HS := hid hs
 have hli : (l.length : Int) ≤ 1000 := by omega
 clear h h' hs
 go_enter Tryz.func29, Tryz.ntmps29
 go_wp2_with fail
 go_loopw [5] (fun i wr => ∃ k : Nat, k ≤ l.length ∧ i = .int .i64 (k : Int) ∧ Hid (Below W.heap.size W wr)) (fun i _ => l.length - (intOf i).toNat)
 case atStart => exact ⟨0, Nat.zero_le _, rfl, Below.refl _ _⟩
 case round =>
  obtain ⟨k, hk, rfl, HB⟩ := hrel
  by_cases hlt : k < l.length
  ·have hki : (k : Int) < (l.length : Int) := by omega
   obtain ⟨g, rfl, -, -⟩ := H.out.some (by omega)
   obtain ⟨g', rfl, -, -⟩ := H'.out.some (by omega)
   obtain ⟨p, hp⟩ := at_lt l k hlt
   obtain ⟨d0, d1⟩ := (H.out.later HB.out).cell hp
   obtain ⟨f0, f1⟩ := (H'.out.later HB.out).cell hp
   have hps := HS.out p (List.mem_of_getElem? hp)
   have heq := neq_ent (p.1 : Int) (p.2 : Int) (p.1 : Int) (p.2 : Int) (I64_small (by omega) (by omega)) (I64_small (by omega) (by omega)) (I64_small (by omega) (by omega)) (I64_small (by omega) (by omega))
   rw [decide_eq_true ⟨rfl, rfl⟩] at heq
   simp only [Bool.not_true] at heq
   clear hp hps
   go_wp2_with fail
   go_quiet (fail)
   go_wp2_with fail
   exact ⟨⟨k + 1, by omega, by go_num, HB.out.trans (drewN_below _ _ _)⟩, by simp [intOf]; omega⟩
  ·have hki : ¬ ((k : Int) < (l.length : Int)) := by omega
   go_wp2_with fail
   go_ret
   exact ⟨rfl, HB.out⟩
theorem gI_one (l : List Nat) : ∀ u ∈ l.map gI, u.oneCell' = true := by
 intro u hu
 obtain ⟨x, _, rfl⟩ := List.mem_map.1 hu
 rfl
theorem step_rows {ops : Array Oper} {o : Oper} {a : Act} {K : Act → World → Prop} {Q : Exit → Act → World → Prop} {E : Prop} (hgd : o.guard = none) (s x : Operand)
  (ho : o.op = .call { callee := .builtin .append, args := #[s, x], argTypes := #[113, 113] }) {w2 wc : World} {v : Value} {xs ns : List Nat} {sb sc : Nat} (hb : Below w2.heap.size w2 wc) (hown : wc.ownsRow w2.heap.size 3 1 v xs.length (xs.map gI))
  (hsrc : ∀ j u, (ns.map gI)[j]? = some u → wc.cell? ⟨sb, j, none⟩ = some u) (hl : xs.length + ns.length ≤ 1000) (hs : a.eval s = v) (hx : a.eval x = .slice (some ⟨sb, 0, none⟩) ns.length sc)
  (h : ∀ v' w4, w4.ownsRow w2.heap.size 3 1 v' (xs ++ ns).length ((xs ++ ns).map gI) → Below w2.heap.size w2 w4 → (∀ b, b < wc.heap.size → v.ownBlock ≠ some b → w4.heap[b]? = wc.heap[b]?) → K (a.put o.dst v') w4) :
  if Region.wanted o (yielded ops a.tmps) = true then Oper.wp Tryz.prog o a wc K Q else E := by
 obtain ⟨i0, hi, hz0, hz1, hz2⟩ := info_parts infoInt
 have hw : Region.wanted o (yielded ops a.tmps) = true := by simp [Region.wanted, hgd]
 rw [if_pos hw]
 obtain ⟨v', w', hr, h2, h3, h4, h5⟩ := run_append_own_at (P := Tryz.prog) wc w2.heap.size 113 o.type 3 i0 (.int .i64 0) 1 8 Tryz.underlying113 hi hz0 hz1 hz2 rfl (by decide) v xs.length (xs.map gI) hown ⟨sb, 0, none⟩ ns.length sc (ns.map gI) (by simp) (fun j u hu => by rw [add_at]; exact hsrc j u hu) (gI_one ns) (by unfold maxLen; omega) (by omega) hb.size
 unfold Oper.wp
 simp [execOp, ho, resolve, invoke, builtin, hs, hx, hr, Result.andThen]
 refine h v' w' ?_ (hb.grown h3 hb.size fun k hk => (hown.lt k hk).1) fun b hb' hne => h3.block b hb' (fun e => hne e.symm)
 rw [List.length_append, List.map_append]
 exact h2
theorem one_src {W : World} {b k : Nat} (h : W.heap[b]? = some (.cells #[.int .i64 (k : Int)] 3 (0, 0))) : ∀ j u, ([k].map gI)[j]? = some u → W.cell? ⟨b, j, none⟩ = some u := by
 intro j u hu
 match j, hu with
 | 0, hu => simp at hu; subst hu; exact cell_blk h rfl
 | j + 1, hu => simp at hu
theorem step_rows2 {ops : Array Oper} {o : Oper} {a : Act} {K : Act → World → Prop} {Q : Exit → Act → World → Prop} {E : Prop} (hgd : o.guard = none) (s x : Operand)
  (ho : o.op = .call { callee := .builtin .append, args := #[s, x], argTypes := #[113, 113] }) {w2 wc : World} {v : Value} {xs : List Nat} {k : Nat} {sb sc : Nat} (hb : Below w2.heap.size w2 wc) (hown : wc.ownsRow w2.heap.size 3 1 v xs.length (xs.map gI))
  (hsrc : ∀ j u, ([k].map gI)[j]? = some u → wc.cell? ⟨sb, j, none⟩ = some u) (hl : xs.length + [k].length ≤ 1000) (hs : a.eval s = v) (hx : a.eval x = .slice (some ⟨sb, 0, none⟩) 1 sc)
  (h : ∀ g' cap w4, Hid (w4.ownsRow w2.heap.size 3 1 (.slice (some ⟨g', 0, none⟩) (xs.length + 1) cap) (xs ++ [k]).length ((xs ++ [k]).map gI)) → Hid (Below w2.heap.size w2 w4) → K (a.put o.dst (.slice (some ⟨g', 0, none⟩) (xs.length + 1) cap)) w4) :
  if Region.wanted o (yielded ops a.tmps) = true then Oper.wp Tryz.prog o a wc K Q else E := by
 refine step_rows (ns := [k]) (xs := xs) (w2 := w2) hgd s x ho hb hown hsrc hl hs hx ?_
 intro v' w4 ho4 hb4 _
 obtain ⟨g', cap, rfl, _, _⟩ := World.ownsRow.form ho4 (by simp)
 have e : (xs ++ [k]).length = xs.length + 1 := by simp
 have h0 := h g' cap w4
 rw [← e] at h0
 exact h0 ho4 hb4
theorem RS.freed_is {r : RS} {k : Nat} : (r.freed k).isL = r.isL.set k false := by
 apply List.ext_getElem?
 intro j
 rw [List.getElem?_set]
 have hl : (r.freed k).gens.length = r.gens.length := rfl
 by_cases hj : j < r.gens.length
 ·rw [RS.isL_at (r := r.freed k) hj]
  by_cases e : k = j
  ·subst e
   simp [RS.isL_len, hj, RS.freed]
  ·rw [if_neg e, RS.isL_at hj]
   have : j ≠ k := fun q => e q.symm
   simp [RS.freed, this]
 ·have e1 : (r.freed k).isL[j]? = none := List.getElem?_eq_none (by rw [RS.isL_len, hl]; omega)
  have e2 : r.isL[j]? = none := List.getElem?_eq_none (by rw [RS.isL_len]; omega)
  rw [e1, e2]
  split
  ·rename_i e; rw [if_neg (by rw [RS.isL_len]; omega)]
  ·rfl
theorem Rr.gone {B : Nat} {w1 w5 : World} {ub gb ib t : Nat} {fv fv' : Value} {r : RS} {k : Nat} {g : Int} (h : Rr B w1 ub gb ib fv t r) (ha : r.aliveB (k : Int) g = true)
  (hb : Below (w1.setCell ⟨ib, k, none⟩ (.bool false)).heap.size (w1.setCell ⟨ib, k, none⟩ (.bool false)) w5)
  (ho : w5.ownsRow w1.heap.size 3 1 fv' (r.free ++ [k]).length ((r.free ++ [k]).map gI)) :
  Rr B (w5.setCell ⟨ub, 2, none⟩ fv') ub gb ib fv' t (r.freed k) ∧ St (Fu ub gb ib fv) w1 (w5.setCell ⟨ub, 2, none⟩ fv') ∧ ∃ x, fv'.ownBlock = some x ∧ w1.heap.size ≤ x := by
 have hz : (w1.setCell ⟨ib, k, none⟩ (.bool false)).heap.size = w1.heap.size := by simp
 have s0 : St (Fu ub gb ib fv) w1 (w1.setCell ⟨ib, k, none⟩ (.bool false)) := St.setCell _ (.inr (.inr (.inl rfl)))
 have l1 : ub < w1.heap.size := (h.lt ub (.inl rfl)).2
 have l2 : gb < w1.heap.size := (h.lt gb (.inr (.inl rfl))).2
 have l3 : ib < w1.heap.size := (h.lt ib (.inr (.inr (.inl rfl)))).2
 obtain ⟨x, cap, hv, hx1, hx2⟩ := World.ownsRow.form ho (by simp)
 have hxv : fv'.ownBlock = some x := by rw [hv]; rfl
 have hnb : ∀ y, fv'.ownBlock = some y → y ≠ ub ∧ y ≠ gb ∧ y ≠ ib := fun y hy => by
  rw [hxv] at hy
  simp at hy
  omega
 have hok : (r.freed k).ok := by have := RS.freed_ok h.ok ha; simpa using this
 have X5 : w5.heap[ub]? = _ := (hb.block ub (by omega)).trans ((Below.heap_setCell _ _ _ _ h.ne_ui).trans h.box)
 have G5 : w5.heap[gb]? = _ := (hb.block gb (by omega)).trans ((Below.heap_setCell _ _ _ _ h.ne_gi).trans h.gens)
 have I5 : w5.heap[ib]? = _ := (hb.block ib (by omega)).trans (heap_setCell_same _ ib k _ 4 _ h.isb)
 refine ⟨⟨?_, ?_, ?_, ?_, hok, h.small, h.old, h.low, fun e => (hnb gb e).2.1 rfl, fun _ => ⟨x, hxv⟩⟩, ?_, x, hxv, hx1⟩
 ·exact heap_setCell_same _ ub 2 _ 168 _ X5
 ·exact (Below.heap_setCell _ _ _ _ (fun e => h.ne_ug e.symm)).trans G5
 ·rw [Below.heap_setCell _ _ _ _ (fun e => h.ne_ui e.symm), I5, bools_set, RS.freed_is]
 ·have ho' : w5.ownsRow B 3 1 fv' (r.free ++ [k]).length ((r.free ++ [k]).map gI) := by
   refine ⟨ho.1, ?_⟩
   rcases ho.2 with q | ⟨g, cap, cur, q1, q2, q3⟩
   ·exact .inl q
   ·exact .inr ⟨g, cap, cur, q1, by have := h.low; omega, q3⟩
  exact own_later ho' fun y cur hy hb' => (Below.heap_setCell _ _ _ _ (hnb y hy).1).trans hb'
 ·refine (s0.trans (St.of_below (S := Fu ub gb ib fv) hb) fun _ _ q => q).trans (St.setCell (S := Fu ub gb ib fv) (p := ⟨ub, 2, none⟩) fv' (.inl rfl)) fun _ _ q => q
set_option maxHeartbeats 3200000 in
set_option maxRecDepth 100000 in
theorem rfree_alive {B : Nat} {W : World} {ub gb ib t : Nat} {fv : Value} {r : RS} (h : Rr B W ub gb ib fv t r) (k : Nat) (g : Int) (ha : r.aliveB (k : Int) g = true) :
  Calls Tryz.prog 75 #[.pointer (some ⟨ub, 0, none⟩), .agg #[.int .i64 (k : Int), .int .i64 g]] W fun e W' => e = .returned (.int .i64 0) ∧ ∃ fv', Rr B W' ub gb ib fv' t (r.freed k) ∧ (∃ x, fv'.ownBlock = some x ∧ W.heap.size ≤ x) ∧ St (Fu ub gb ib fv) W W' := by
 have BA := hid (bAl W (.cells #[.int .i64 (k : Int), .int .i64 g] 43))
 have AL := hid (ralive_any (h.later BA.out) (k : Int) g)
 rw [ha] at AL
 obtain ⟨fa, fc, rfl⟩ := own_slice h.free
 have hkn : k < r.gens.length := by
  obtain ⟨_, _, _, d⟩ := (RS.aliveB_iff _ _ _).1 ha
  simpa using (List.getElem?_eq_some_iff.1 d).1
 obtain ⟨fb, hfb⟩ : ∃ fb, fa = some ⟨fb, 0, none⟩ := by
  obtain ⟨x, hx⟩ := h.nz (by omega)
  rcases h.free.2 with ⟨q, _⟩ | ⟨g, cap, cur, q, _⟩
  ·rw [q] at hx; simp [Value.ownBlock] at hx
  ·simp only [Value.slice.injEq, true_and] at q; exact ⟨g, q.1⟩
 subst hfb
 have H := hid h
 have HA := hid ha
 have hn64 : (r.gens.length : Int) ≤ 64 := by have := h.small; omega
 have hki : (k : Int) < (r.gens.length : Int) := by omega
 clear h ha
 go_enter Tryz.func75, Tryz.ntmps75
 go_wp2_with fail
 refine AL.out.mono ?_
 rintro e w1 ⟨rfl, hb⟩
 have HB := hid (BA.out.trans (hb.mono BA.out.size))
 have EB := hid (blk_seen hb (Nat.le_refl _) (heap_alloc_new W (.cells #[.int .i64 (k : Int), .int .i64 g] 43)))
 have H1 := hid (H.out.later HB.out)
 have hWl : W.heap.size < w1.heap.size := (Array.getElem?_eq_some_iff.1 EB.out).1
 have c1 := H1.out.c1
 have ci := H1.out.ci hkn
 have fri := blk_free H1.out.isb k
 have e0 := cell_blk EB.out (j := 0) rfl
 have hiW : ib < W.heap.size := (H.out.lt ib (.inr (.inr (.inl rfl)))).2
 have huW : ub < W.heap.size := (H.out.lt ub (.inl rfl)).2
 have n1 : ¬ (ib = ub) := fun e => H1.out.ne_ui e.symm
 have n1' : ¬ (ub = ib) := H1.out.ne_ui
 have n2 : ¬ (ib = W.heap.size) := by omega
 have n2' : ¬ (W.heap.size = ib) := by omega
 generalize decide (k ∉ r.free) = b at *
 clear hb AL
 go_wp2_with fail
 go_region_held3 (fun W' => W'.cell? ⟨ub, 1, none⟩ = some (.slice (some ⟨ib, 0, none⟩) r.gens.length r.gens.length) ∧ W'.cell? ⟨W.heap.size, 0, none⟩ = some (.int .i64 (k : Int))) (go_keep) (fail)
 go_wp2_with fail
 obtain ⟨w2, hw2⟩ : ∃ w2, w2 = (w1.setCell ⟨ib, k, none⟩ (.bool false)).drew := ⟨_, rfl⟩
 rw [← hw2]
 have z2 : w2.heap.size = w1.heap.size := by rw [hw2]; simp
 have X2 : Hid (w2.heap[ub]? = some (.cells #[.slice (some ⟨gb, 0, none⟩) r.gens.length r.gens.length, .slice (some ⟨ib, 0, none⟩) r.gens.length r.gens.length, .slice (some ⟨fb, 0, none⟩) r.free.length fc] 168 (0, 0))) := by
  rw [hw2]; exact (Below.heap_setCell _ _ _ _ H1.out.ne_ui).trans H1.out.box
 have E2 : Hid (w2.heap[W.heap.size]? = some (.cells #[.int .i64 (k : Int), .int .i64 g] 43 (0, 0))) := by
  rw [hw2]; exact (Below.heap_setCell _ _ _ _ n2').trans EB.out
 have F2 : Hid (∀ W', Below w2.heap.size w2 W' → ∀ j u, (r.free.map gI)[j]? = some u → W'.cell? ⟨fb, j, none⟩ = some u) := by
  intro W' hb j u hu
  have hn := (H1.out.ne_f fb rfl).2.2
  have hc := H1.out.free.cells (g := fb) rfl j u hu
  rw [add_at] at hc
  refine seen hb (Nat.le_refl _) ?_
  rw [hw2]
  exact (World.cell?_of_block (a := ⟨fb, j, none⟩) (Below.heap_setCell w1 ⟨ib, k, none⟩ (.bool false) fb hn)).trans hc
 have hfin : Hid (∀ w5 fv', Below w2.heap.size w2 w5 → w5.ownsRow w2.heap.size 3 1 fv' (r.free ++ [k]).length ((r.free ++ [k]).map gI) → Rr B (w5.setCell ⟨ub, 2, none⟩ fv') ub gb ib fv' t (r.freed k) ∧ St (Fu ub gb ib (.slice (some ⟨fb, 0, none⟩) r.free.length fc)) w1 (w5.setCell ⟨ub, 2, none⟩ fv') ∧ ∃ x, fv'.ownBlock = some x ∧ w1.heap.size ≤ x) := by
  intro w5 fv' hb ho
  rw [z2] at ho
  refine H1.out.gone HA.out ?_ ho
  rw [hw2] at hb
  exact ⟨hb.os, hb.tape, hb.output, hb.size, hb.block⟩
 have KE : Hid (∀ W', Below w2.heap.size w2 W' → W'.cell? ⟨W.heap.size, 0, none⟩ = some (.int .i64 (k : Int))) := fun W' hb => cell_blk (blk_seen hb (Nat.le_refl _) E2.out) rfl
 have KU : Hid (∀ W', Below w2.heap.size w2 W' → W'.cell? ⟨ub, 2, none⟩ = some (.slice (some ⟨fb, 0, none⟩) r.free.length fc) ∧ W'.frozen? ⟨ub, 2, none⟩ = false) := fun W' hb => ⟨cell_blk (blk_seen hb (Nat.le_refl _) X2.out) rfl, blk_free (blk_seen hb (Nat.le_refl _) X2.out) 2⟩
 have x2 := cell_blk X2.out (j := 2) rfl
 have u2 : ub < w2.heap.size := by omega
 have u3 : ¬ (ub = w2.heap.size) := by omega
 have u4 : ¬ (ub = w2.heap.size + 1) := by omega
 have hml : r.free.length ≤ 64 := by have := H1.out.few; have := H1.out.small; omega
 have hml1 : ([] : List Nat).length + r.free.length ≤ 1000 := by simp; omega
 have hml2 : r.free.length + [k].length ≤ 1000 := by simp; omega
 have Y0 : Below w2.heap.size w2 w2.drew := (Below.refl _ _).drew
 have Ya : Below w2.heap.size w2 ((w2.alloc (.cells #[.int .i64 (k : Int)] 3)).alloc (.cells #[] 3)).drew := (((Below.refl _ _).alloc (Nat.le_refl _) _).alloc (by simp) _).drew
 have Yb : Below w2.heap.size w2 ((w2.alloc (.cells #[] 3)).alloc (.cells #[.int .i64 (k : Int)] 3)).drew := (((Below.refl _ _).alloc (Nat.le_refl _) _).alloc (by simp) _).drew
 have Yc : Below w2.heap.size w2 (w2.alloc (.cells #[] 3)).drew := ((Below.refl _ _).alloc (Nat.le_refl _) _).drew
 have Yd : Below w2.heap.size w2 (w2.alloc (.cells #[.int .i64 (k : Int)] 3)).drew := ((Below.refl _ _).alloc (Nat.le_refl _) _).drew
 have Oa : ((w2.alloc (.cells #[.int .i64 (k : Int)] 3)).alloc (.cells #[] 3)).drew.ownsRow w2.heap.size 3 1 (.slice (some ⟨w2.heap.size + 1, 0, none⟩) 0 0) ([] : List Nat).length (([] : List Nat).map gI) := by
  have := World.ownsRow_lit (base := w2.heap.size) (e := 3) (size := 1) (w2.alloc (.cells #[.int .i64 (k : Int)] 3)) #[] 0 (by simp) (Nat.zero_le _) rfl
  rw [World.size_alloc] at this
  exact this
 have Oc : (w2.alloc (.cells #[] 3)).drew.ownsRow w2.heap.size 3 1 (.slice (some ⟨w2.heap.size, 0, none⟩) 0 0) ([] : List Nat).length (([] : List Nat).map gI) := World.ownsRow_lit (base := w2.heap.size) (e := 3) (size := 1) w2 #[] 0 (Nat.le_refl _) (Nat.zero_le _) rfl
 have Ob : ((w2.alloc (.cells #[] 3)).alloc (.cells #[.int .i64 (k : Int)] 3)).drew.ownsRow w2.heap.size 3 1 (.slice (some ⟨w2.heap.size, 0, none⟩) 0 0) ([] : List Nat).length (([] : List Nat).map gI) := (World.ownsRow_lit (base := w2.heap.size) (e := 3) (size := 1) w2 #[] 0 (Nat.le_refl _) (Nat.zero_le _) rfl).alloc _
 have ka : ((w2.alloc (.cells #[.int .i64 (k : Int)] 3)).alloc (.cells #[] 3)).drew.heap[w2.heap.size]? = some (.cells #[.int .i64 (k : Int)] 3 (0, 0)) := (Below.heap_alloc _ _ _ (by simp)).trans (heap_alloc_new w2 _)
 have kb : ((w2.alloc (.cells #[] 3)).alloc (.cells #[.int .i64 (k : Int)] 3)).drew.heap[w2.heap.size + 1]? = some (.cells #[.int .i64 (k : Int)] 3 (0, 0)) := by
  have := heap_alloc_new (w2.alloc (.cells #[] 3)) (.cells #[.int .i64 (k : Int)] 3)
  rw [World.size_alloc] at this
  exact this
 clear hw2 H H1 HA EB E2 X2 c1 ci fri e0
 have HY0 := hid Y0
 have HYa := hid Ya
 have HYb := hid Yb
 have HYc := hid Yc
 have HYd := hid Yd
 have HOa := hid Oa
 have HOb := hid Ob
 have HOc := hid Oc
 have Hka := hid ka
 have Hkb := hid kb
 clear Y0 Ya Yb Yc Yd Oa Ob Oc ka kb
 have k0 := KE.out _ (Below.refl _ _)
 have hWw : W.heap.size < w2.heap.size := by omega
 have hWn : ¬ (W.heap.size = w2.heap.size) := by omega
 have hWn1 : ¬ (W.heap.size = w2.heap.size + 1) := by omega
 have HZ := hid z2
 clear z2 hWl
 go_region_law (first
   | (refine step_rows (ns := r.free) (xs := []) (w2 := w2) rfl _ _ rfl HYa.out HOa.out (F2.out _ HYa.out) hml1 rfl rfl ?_; intro v4 w4 ho4 hb4 hk4; have H4 := hid ho4; have HB4 := hid hb4; have k4 := KE.out _ hb4; have S4 := hid (one_src ((hk4 w2.heap.size (by simp; omega) (by simp [Value.ownBlock])).trans Hka.out)); clear ho4 hb4 hk4)
   | (refine step_rows (ns := r.free) (xs := []) (w2 := w2) rfl _ _ rfl HYb.out HOb.out (F2.out _ HYb.out) hml1 rfl rfl ?_; intro v4 w4 ho4 hb4 hk4; have H4 := hid ho4; have HB4 := hid hb4; have k4 := KE.out _ hb4; have S4 := hid (one_src ((hk4 (w2.heap.size + 1) (by simp) (by simp [Value.ownBlock])).trans Hkb.out)); clear ho4 hb4 hk4)
   | (refine step_rows (ns := r.free) (xs := []) (w2 := w2) rfl _ _ rfl HYc.out HOc.out (F2.out _ HYc.out) hml1 rfl rfl ?_; intro v4 w4 ho4 hb4 hk4; have H4 := hid ho4; have HB4 := hid hb4; have k4 := KE.out _ hb4; have S4 := hid True.intro; have hW4 : W.heap.size < w4.heap.size := (World.block_lt_of_cell? w4 _ k4); have hW4n : ¬ (W.heap.size = w4.heap.size) := (by omega); clear ho4 hb4 hk4)
   | (refine step_rows2 (w2 := w2) rfl _ _ rfl HB4.out H4.out S4.out hml2 rfl rfl ?_; intro g5 c5 w5 ho5 hb5; have ku := (KU.out _ hb5.out).1; have kf := (KU.out _ hb5.out).2)
   | (refine step_rows2 (w2 := w2) rfl _ _ rfl (HB4.out.trans ((bAl w4 _).mono HB4.out.size)) (World.ownsRow.alloc H4.out _) (one_src (heap_alloc_new w4 _)) hml2 rfl rfl ?_; intro g5 c5 w5 ho5 hb5; have ku := (KU.out _ hb5.out).1; have kf := (KU.out _ hb5.out).2))
 all_goals
  have HF := hid (hfin.out _ _ hb5.out ho5.out)
  clear ku kf k4 KE KU F2 hfin HYa HYb HYc HYd HY0 HOa HOb HOc Hka Hkb H4 HB4 S4 k0
  go_wp2_with fail
  go_ret
  obtain ⟨h1, h2, x, h3, h4⟩ := HF.out
  exact ⟨rfl, _, h1, ⟨x, h3, Nat.le_trans HB.out.size h4⟩, (St.of_below HB.out).trans h2 fun _ _ q => q⟩
end Ro
namespace Rs
open Go.RowKit Go.Shelf Go.Maps
open At (St bAl cell_blk blk_seen drewN_below pow32 bits_or32)
structure Prt where
 c : Int
 v0 : Int
 v1 : Int
 v2 : Int
 v3 : Int
 t : Int
def Prt.arr (p : Prt) : Array Value := #[.int .i64 p.c, .int .i64 p.v0, .int .i64 p.v1, .int .i64 p.v2, .int .i64 p.v3, .int .i64 p.t]
def Prt.val (p : Prt) : Value := .agg #[.int .i64 p.c, .int .i64 p.v0, .int .i64 p.v1, .int .i64 p.v2, .int .i64 p.v3, .int .i64 p.t]
def Prt.zero : Prt := ⟨0, 0, 0, 0, 0, 0⟩
def pCells (l : List Prt) : List Value := l.flatMap fun p => p.arr.toList
theorem pCells_snoc (l : List Prt) (p : Prt) : pCells (l ++ [p]) = pCells l ++ p.arr.toList := by simp [pCells]
theorem pCells_at : ∀ (l : List Prt) (j : Nat) (p : Prt), l[j]? = some p → ∀ i, i < 6 → (pCells l)[j * 6 + i]? = p.arr[i]? := by
 intro l
 induction l with
 | nil => intro j p h; simp at h
 | cons x l ih =>
  intro j p h i hi
  have e : pCells (x :: l) = x.arr.toList ++ pCells l := by simp [pCells]
  rw [e]
  cases j with
  | zero =>
   simp at h
   subst h
   rw [List.getElem?_append_left (by simp [Prt.arr]; omega)]
   simp
  | succ j =>
   have h2 := ih j p (by simpa using h) i hi
   rw [List.getElem?_append_right (by simp [Prt.arr]; omega), ← h2]
   congr 1
   simp [Prt.arr]
   omega
theorem infoPart : (Tryz.prog.info? 47).map (fun i => (i.zero, i.size, i.bytes)) = some (some (.agg #[.int .i64 0, .int .i64 0, .int .i64 0, .int .i64 0, .int .i64 0, .int .i64 0]), 6, 48) := by kernel_rfl
def Prts (B : Nat) (W : World) (v : Value) (l : List Prt) : Prop := W.ownsRow B 47 6 v l.length (pCells l)
theorem Prts.slice {B : Nat} {W : World} {v : Value} {l : List Prt} (h : Prts B W v l) : ∃ a c, v = .slice a l.length c := own_slice h
theorem Prts.kept {B : Nat} {W W' : World} {v : Value} {l : List Prt} {T : Nat → Prop} (h : Prts B W v l) (hs : St T W W') (hn : ∀ x, v.ownBlock = some x → ¬ T x) : Prts B W' v l := by
 refine ⟨h.1, h.2.elim .inl fun ⟨g, cap, cur, h1, h2, h3, h4⟩ => .inr ⟨g, cap, cur, h1, h2, ?_, h4⟩⟩
 exact hs.at h3 (hn g (by rw [h1]; rfl))
theorem Prts.later {B : Nat} {W W' : World} {v : Value} {l : List Prt} (h : Prts B W v l) (hb : Below W.heap.size W W') : Prts B W' v l := h.kept (T := fun _ => False) (St.of_below hb) fun _ _ q => q
theorem Prts.lt {B : Nat} {W : World} {v : Value} {l : List Prt} (h : Prts B W v l) (k : Nat) (hk : v.ownBlock = some k) : B ≤ k ∧ k < W.heap.size := World.ownsRow.lt h k hk
theorem Prts.lower {B B' : Nat} {W : World} {v : Value} {l : List Prt} (h : Prts B W v l) (hB : B' ≤ B) : Prts B' W v l :=
 ⟨h.1, h.2.elim .inl fun ⟨g, cap, cur, h1, h2, h3⟩ => .inr ⟨g, cap, cur, h1, by omega, h3⟩⟩
structure Six (W : World) (b o : Nat) (p : Prt) : Prop where
 c0 : W.cell? ⟨b, o, none⟩ = some (.int .i64 p.c)
 c1 : W.cell? ⟨b, o + 1, none⟩ = some (.int .i64 p.v0)
 c2 : W.cell? ⟨b, o + 2, none⟩ = some (.int .i64 p.v1)
 c3 : W.cell? ⟨b, o + 3, none⟩ = some (.int .i64 p.v2)
 c4 : W.cell? ⟨b, o + 4, none⟩ = some (.int .i64 p.v3)
 c5 : W.cell? ⟨b, o + 5, none⟩ = some (.int .i64 p.t)
theorem Six.later {W W' : World} {b o : Nat} {p : Prt} (h : Six W b o p) (hb : Below W.heap.size W W') : Six W' b o p :=
 ⟨At.seen hb (Nat.le_refl _) h.c0, At.seen hb (Nat.le_refl _) h.c1, At.seen hb (Nat.le_refl _) h.c2, At.seen hb (Nat.le_refl _) h.c3, At.seen hb (Nat.le_refl _) h.c4, At.seen hb (Nat.le_refl _) h.c5⟩
theorem six_blk {W : World} {b : Nat} {p : Prt} {e : TypeId} (h : W.heap[b]? = some (.cells p.arr e (0, 0))) : Six W b 0 p :=
 ⟨cell_blk h rfl, cell_blk h rfl, cell_blk h rfl, cell_blk h rfl, cell_blk h rfl, cell_blk h rfl⟩
def PRow (W : World) (v : Value) (l : List Prt) : Prop := ∃ a c, v = .slice a l.length c ∧ (l = [] ∨ ∃ b o, a = some ⟨b, o, none⟩ ∧ ∀ (j : Nat) p, l[j]? = some p → Six W b (o + j * 6) p)
theorem PRow.later {W W' : World} {v : Value} {l : List Prt} (h : PRow W v l) (hb : Below W.heap.size W W') : PRow W' v l := by
 obtain ⟨a, c, h1, h2⟩ := h
 refine ⟨a, c, h1, ?_⟩
 rcases h2 with h2 | ⟨b, o, h2, h3⟩
 ·exact .inl h2
 ·exact .inr ⟨b, o, h2, fun j p hj => (h3 j p hj).later hb⟩
theorem Prts.row {B : Nat} {W : World} {v : Value} {l : List Prt} (h : Prts B W v l) : PRow W v l := by
 obtain ⟨a, c, rfl⟩ := h.slice
 refine ⟨a, c, rfl, ?_⟩
 by_cases h0 : l = []
 ·exact .inl h0
 ·obtain ⟨g, rfl⟩ : ∃ g, a = some ⟨g, 0, none⟩ := by
   obtain ⟨g, cap', e, h1, h2⟩ := World.ownsRow.form h (List.length_pos_iff.2 h0)
   simp only [Value.slice.injEq, true_and] at e
   exact ⟨g, e.1⟩
  refine .inr ⟨g, 0, rfl, fun j p hj => ?_⟩
  have hlt := (List.getElem?_eq_some_iff.1 hj).1
  have A := pCells_at l j p hj
  have C : ∀ i, i < 6 → W.cell? ⟨g, j * 6 + i, none⟩ = p.arr[i]? := fun i hi => (World.ownsRow.cellAt h (j * 6 + i) (by omega)).trans (A i hi)
  rw [Nat.zero_add]
  exact ⟨C 0 (by decide), C 1 (by decide), C 2 (by decide), C 3 (by decide), C 4 (by decide), C 5 (by decide)⟩
theorem PRow.at {W : World} {a : Option Addr} {c : Nat} {l : List Prt} (h : PRow W (.slice a l.length c) l) {j : Nat} {p : Prt} (hj : l[j]? = some p) : ∃ b o, a = some ⟨b, o, none⟩ ∧ Six W b (o + j * 6) p := by
 obtain ⟨a', c', h1, h2⟩ := h
 obtain ⟨rfl, rfl⟩ : a = a' ∧ c = c' := by simpa using h1
 rcases h2 with h2 | ⟨b, o, h2, h3⟩
 ·rw [h2] at hj; simp at hj
 ·exact ⟨b, o, h2, h3 j p hj⟩
theorem prts_none (W : World) : Prts W.heap.size (W.alloc (.cells #[] 47)) (.slice (some ⟨W.heap.size, 0, none⟩) 0 0) [] :=
 World.ownsRow_lit (base := W.heap.size) (e := 47) (size := 6) W #[] 0 (Nat.le_refl _) (Nat.zero_le _) rfl
theorem wpList_prt {ops : Array Oper} {rest : List Oper} {o : Oper} {a : Act} {Q : Exit → Act → World → Prop} (hgd : o.guard = none) (s x : Operand)
  (ho : o.op = .call { callee := .builtin .append, args := #[s, x], argTypes := #[44, 44] }) {B : Nat} {wc : World} {v : Value} {l : List Prt} {p : Prt} (hown : Prts B wc v l) (hl : l.length ≤ 1000) (hB : B ≤ wc.heap.size)
  (hs : a.eval s = v) (hx : a.eval x = .slice (some ⟨wc.heap.size, 0, none⟩) 1 1)
  (h : ∀ v' w2, Hid (Prts B w2 v' (l ++ [p])) → Hid (St (fun x => v.ownBlock = some x) wc w2) → wpList Tryz.prog ops Q rest (a.put o.dst v') w2) :
  wpList Tryz.prog ops Q (o :: rest) a (wc.alloc (.cells #[.int .i64 p.c, .int .i64 p.v0, .int .i64 p.v1, .int .i64 p.v2, .int .i64 p.v3, .int .i64 p.t] 47)) := by
 obtain ⟨i0, hi, hz0, hz1, hz2⟩ := info_parts infoPart
 have hb := bAl wc (.cells p.arr 47)
 have ho2 : (wc.alloc (.cells p.arr 47)).ownsRow B 47 6 v l.length (pCells l) := World.ownsRow.alloc hown _
 have hh := heap_alloc_new wc (.cells p.arr 47)
 refine wpList_append_lies _ hgd s x 44 ho B 47 i0 (.agg #[.int .i64 0, .int .i64 0, .int .i64 0, .int .i64 0, .int .i64 0, .int .i64 0]) 6 48 Tryz.underlying44 hi hz0 hz1 hz2 rfl (by decide) v l.length (pCells l) hs ho2 ⟨wc.heap.size, 0, none⟩ 1 1 p.arr.toList hx rfl (fun j u hu => by
  rw [add_at]
  exact cell_blk hh (by simpa using hu)) (by intro u hu; simp [Prt.arr] at hu; rcases hu with rfl | rfl | rfl | rfl | rfl | rfl <;> rfl) (by decide) (by unfold maxLen; omega) (by omega) (by simp; omega) (wc.heap.size + 1) (by simp) ?_
 intro g' cap w2 ow hg hat hlt
 refine h _ w2 ?_ ((St.of_below hb).trans (St.of_grown (S := fun x => v.ownBlock = some x) hg fun k e => e) fun _ _ q => q)
 show World.ownsRow _ _ _ _ _ _ _
 rw [pCells_snoc, List.length_append]
 exact ow
def ix (l : List Prt) (comp : Int) : Nat := l.findIdx fun p => p.c == comp
def ixI (l : List Prt) (comp : Int) : Int := if ix l comp < l.length then (ix l comp : Int) else -1
theorem ix_hit {l : List Prt} {comp : Int} {k : Nat} {p : Prt} (hk : k ≤ ix l comp) (hp : l[k]? = some p) (hc : p.c = comp) : ix l comp = k := by
 obtain ⟨hl, rfl⟩ := List.getElem?_eq_some_iff.1 hp
 refine Nat.le_antisymm (Nat.le_of_not_lt fun q => ?_) hk
 have := List.not_of_lt_findIdx q
 simp [hc] at this
theorem ix_miss {l : List Prt} {comp : Int} {k : Nat} {p : Prt} (hk : k ≤ ix l comp) (hp : l[k]? = some p) (hc : ¬ p.c = comp) : k + 1 ≤ ix l comp := by
 obtain ⟨hl, rfl⟩ := List.getElem?_eq_some_iff.1 hp
 refine Nat.lt_of_le_of_ne hk fun e => ?_
 have hlt : List.findIdx (fun p : Prt => p.c == comp) l < l.length := by show ix l comp < _; omega
 have := List.findIdx_getElem (w := hlt)
 simp only [beq_iff_eq] at this
 have e' : List.findIdx (fun p : Prt => p.c == comp) l = k := e.symm
 simp only [e'] at this
 exact hc this
set_option maxHeartbeats 800000 in
set_option maxRecDepth 100000 in
theorem at_any (W : World) (v : Value) (l : List Prt) (comp : Int) (h : PRow W v l) (hl : l.length ≤ 1000) :
  Calls Tryz.prog 68 #[v, .int .i64 comp] W fun e W' => e = .returned (.int .i64 (ixI l comp)) ∧ W' = W := by
 have H := hid h
 obtain ⟨a, c, rfl, -⟩ := h
 have hli : (l.length : Int) ≤ 1000 := by omega
 go_enter Tryz.func68, Tryz.ntmps68
 go_wp2_with fail
 go_loopg [5] l.length (fun gh i wr => ∃ k : Nat, k ≤ l.length ∧ gh = l.length - k ∧ i = .int .i64 (k : Int) ∧ Hid (k ≤ ix l comp) ∧ wr = W)
 case atStart => exact ⟨0, Nat.zero_le _, rfl, rfl, Nat.zero_le _, rfl⟩
 case round =>
  obtain ⟨k, hk, rfl, rfl, HK, rfl⟩ := hrel
  by_cases hlt : k < l.length
  ·have hki : (k : Int) < (l.length : Int) := by omega
   obtain ⟨p, hp⟩ := at_lt l k hlt
   obtain ⟨b, o, rfl, six⟩ := H.out.at hp
   have d0 := six.c0
   by_cases hc : p.c = comp
   ·have E := hid (ix_hit HK.out hp hc)
    have R : Hid (ixI l comp = (k : Int)) := by show _ = _; unfold ixI; rw [E.out, if_pos hlt]
    have q : (p.c == comp) = true := by simp [hc]
    clear hc hp six
    go_wp2_with fail
    go_ret
    exact ⟨by rw [R.out]; rfl, rfl⟩
   ·have E := hid (ix_miss HK.out hp hc)
    have q : (p.c == comp) = false := by simp [hc]
    clear hc hp six
    go_wp2_with fail
    go_roundg (l.length - (k + 1))
    case measure => omega
    case rel => exact ⟨k + 1, by omega, rfl, by go_num, E.out, rfl⟩
  ·have hki : ¬ ((k : Int) < (l.length : Int)) := by omega
   have R : Hid (ixI l comp = -1) := by
    show _ = _
    unfold ixI
    rw [if_neg (by have := HK.out; omega)]
   go_wp2_with fail
   go_ret
   exact ⟨by rw [R.out]; rfl, rfl⟩
def wst (p : Prt) (l : List Prt) : Bool × List Prt := l.foldl (fun s x => if !s.1 && decide (p.c < x.c) then (true, s.2 ++ [p] ++ [x]) else (s.1, s.2 ++ [x])) (false, [])
def insP (l : List Prt) (p : Prt) : List Prt := if (wst p l).1 then (wst p l).2 else (wst p l).2 ++ [p]
theorem wst_next (p : Prt) {l : List Prt} {k : Nat} {x : Prt} (h : l[k]? = some x) : wst p (l.take (k + 1)) = if !(wst p (l.take k)).1 && decide (p.c < x.c) then (true, (wst p (l.take k)).2 ++ [p] ++ [x]) else ((wst p (l.take k)).1, (wst p (l.take k)).2 ++ [x]) := by
 obtain ⟨hl, rfl⟩ := List.getElem?_eq_some_iff.1 h
 unfold wst
 rw [List.take_succ_eq_append_getElem hl, List.foldl_append]
 rfl
theorem wst_len (p : Prt) (l : List Prt) : (wst p l).2.length = l.length + if (wst p l).1 then 1 else 0 := by
 suffices h : ∀ (l : List Prt) (s : Bool × List Prt), (l.foldl (fun s x => if !s.1 && decide (p.c < x.c) then (true, s.2 ++ [p] ++ [x]) else (s.1, s.2 ++ [x])) s).2.length + (if s.1 then 1 else 0) = s.2.length + l.length + if (l.foldl (fun s x => if !s.1 && decide (p.c < x.c) then (true, s.2 ++ [p] ++ [x]) else (s.1, s.2 ++ [x])) s).1 then 1 else 0 by
  have := h l (false, [])
  unfold wst
  simp only [List.length_nil, Bool.false_eq_true, if_false] at this
  omega
 intro l
 induction l with
 | nil => intro s; simp
 | cons x l ih =>
  intro s
  rw [List.foldl_cons]
  have := ih (if !s.1 && decide (p.c < x.c) then (true, s.2 ++ [p] ++ [x]) else (s.1, s.2 ++ [x]))
  obtain ⟨b, o⟩ := s
  cases b <;> by_cases hc : p.c < x.c <;> simp [hc] at this ⊢ <;> omega
theorem bel_app {W1 wr w2 : World} {v : Value} {q : List Prt} {n : Nat} (hb : Below W1.heap.size W1 wr) (hp : Prts W1.heap.size wr v q) (hst : St (fun x => v.ownBlock = some x) (wr.drewN n) w2) : Below W1.heap.size W1 w2 := by
 have b1 := hb.trans ((drewN_below wr n).mono hb.size)
 exact b1.trans (hst.below (fun x hx => (hp.lt x hx).1) b1.size)
set_option maxHeartbeats 3200000 in
set_option maxRecDepth 100000 in
theorem with_any (W : World) (v : Value) (l : List Prt) (p : Prt) (h : PRow W v l) (hl : l.length ≤ 900) :
  Calls Tryz.prog 69 #[v, .agg #[.int .i64 p.c, .int .i64 p.v0, .int .i64 p.v1, .int .i64 p.v2, .int .i64 p.v3, .int .i64 p.t]] W fun e W' => ∃ v', e = .returned v' ∧ Prts W.heap.size W' v' (insP l p) ∧ Below W.heap.size W W' := by
 have B1 := hid (bAl W (.cells p.arr 47))
 have H := hid (h.later B1.out)
 obtain ⟨a, c, rfl, -⟩ := h
 have hli : (l.length : Int) ≤ 900 := by omega
 obtain ⟨W1, hW1⟩ : ∃ W1, W1 = W.alloc (.cells p.arr 47) := ⟨_, rfl⟩
 have KB : Hid (W1.heap[W.heap.size]? = some (.cells p.arr 47 (0, 0))) := by rw [hW1]; exact heap_alloc_new W _
 have hz1 : W.heap.size + 1 = W1.heap.size := by rw [hW1]; simp
 rw [← hW1] at H B1
 have I1 : Hid (Prts W1.heap.size (W1.alloc (.cells #[] 47)) (.slice (some ⟨W1.heap.size, 0, none⟩) 0 0) []) := prts_none W1
 have HW1 := hid hW1
 unfold Prt.arr at HW1
 clear hW1
 have HZ := hid hz1
 clear hz1
 go_enter Tryz.func69, Tryz.ntmps69
 go_upto_region 1 with fail
 rw [← HW1.out]
 go_wp2_with fail
 go_loopg [5, 6, 7] l.length (fun gh ov dv i wr => ∃ (k : Nat) (d : Bool) (q : List Prt), k ≤ l.length ∧ gh = l.length - k ∧ i = .int .i64 (k : Int) ∧ dv = .bool d ∧ Hid (wst p (l.take k) = (d, q)) ∧ Hid (Prts W1.heap.size wr ov q) ∧ Hid (Below W1.heap.size W1 wr))
 case atStart => exact ⟨0, false, [], Nat.zero_le _, rfl, rfl, rfl, rfl, I1.out, bAl _ _⟩
 case round =>
  clear I1
  rename World => wr
  obtain ⟨k, d, q, hk, rfl, rfl, rfl, HS, HP, HB⟩ := hrel
  have hql : q.length ≤ 950 := by
   have h1 := wst_len p (l.take k)
   rw [HS.out] at h1
   have h2 : (l.take k).length ≤ l.length := by simp; omega
   simp only at h1
   split at h1 <;> omega
  have hw1 : W1.heap.size ≤ wr.heap.size := HB.out.size
  obtain ⟨e0, e1, e2, e3, e4, e5⟩ := six_blk (blk_seen HB.out (Nat.le_refl _) KB.out)
  have hbl : W.heap.size < wr.heap.size := World.block_lt_of_cell? _ _ e0
  have hbn : ¬ (W.heap.size = wr.heap.size) := by omega
  obtain ⟨oa, oc, rfl⟩ := HP.out.slice
  by_cases hlt : k < l.length
  ·have hki : (k : Int) < (l.length : Int) := by omega
   obtain ⟨x, hx⟩ := at_lt l k hlt
   obtain ⟨b, o, rfl, six⟩ := (H.out.later HB.out).at hx
   have WN := hid (wst_next p hx)
   rw [HS.out] at WN
   obtain ⟨d0, d1, d2, d3, d4, d5⟩ := six
   have SX : Hid (∀ W', Below wr.heap.size wr W' → Six W' b (o + k * 6) x) := fun W' hb => Six.later ⟨d0, d1, d2, d3, d4, d5⟩ hb
   have HX := hid hx
   clear hx SX
   have hul : q.length ≤ 1000 := by omega
   cases d with
   | true =>
    have E : Hid (wst p (l.take (k + 1)) = (true, q ++ [x])) := WN.out
    clear WN
    go_wp2_with fail
    go_quiet (fail)
    go_wp2_with (at_builtin; refine wpList_prt (p := x) rfl _ _ rfl (HP.out.later (drewN_below _ _)) hul (by exact hw1) rfl rfl ?_; intro v' w2 ho hst)
    have B2 := hid (bel_app HB.out HP.out hst.out)
    go_roundg (l.length - (k + 1))
    case measure => omega
    case rel => exact ⟨k + 1, true, q ++ [x], by omega, rfl, by go_num, rfl, E.out, ho.out, B2.out⟩
   | false =>
    by_cases hc : p.c < x.c
    ·have hd : decide (p.c < x.c) = true := decide_eq_true hc
     have E : Hid (wst p (l.take (k + 1)) = (true, q ++ [p] ++ [x])) := by
      show _ = _
      rw [WN.out]
      simp [hc]
     clear WN hc
     go_wp2_with fail
     go_quiet (fail)
     clear d0 d1 d2 d3 d4 d5
     go_upto_region 9 with (at_builtin; refine wpList_prt (p := p) rfl _ _ rfl (HP.out.later (drewN_below _ _)) hul (by exact hw1) rfl rfl ?_; intro v2 w2 ho hst)
     have B2 := hid (bel_app HB.out HP.out hst.out)
     obtain ⟨b', o', hbo, six2⟩ := (H.out.later B2.out).at HX.out
     obtain ⟨rfl, rfl⟩ : b = b' ∧ o = o' := by simpa using hbo
     obtain ⟨d0, d1, d2, d3, d4, d5⟩ := six2
     have hw2 : W1.heap.size ≤ w2.heap.size := B2.out.size
     have hul2 : (q ++ [p]).length ≤ 1000 := by simp; omega
     obtain ⟨a2, c2, rfl⟩ := Prts.slice ho.out
     clear HP hst e0 e1 e2 e3 e4 e5 hbo
     go_wp2_with (at_builtin; refine wpList_prt (p := x) rfl _ _ rfl ho.out hul2 (by exact hw2) rfl rfl ?_; intro v3 w3 ho3 hst3)
     have B3 := hid (bel_app (n := 0) B2.out ho.out hst3.out)
     go_roundg (l.length - (k + 1))
     case measure => omega
     case rel => exact ⟨k + 1, true, q ++ [p] ++ [x], by omega, rfl, by go_num, rfl, E.out, ho3.out, B3.out⟩
    ·have hd : decide (p.c < x.c) = false := decide_eq_false hc
     have E : Hid (wst p (l.take (k + 1)) = (false, q ++ [x])) := by
      show _ = _
      rw [WN.out]
      simp [hc]
     clear WN hc
     go_wp2_with fail
     go_quiet (fail)
     go_wp2_with (at_builtin; refine wpList_prt (p := x) rfl _ _ rfl (HP.out.later (drewN_below _ _)) hul (by exact hw1) rfl rfl ?_; intro v' w2 ho hst)
     have B2 := hid (bel_app HB.out HP.out hst.out)
     go_roundg (l.length - (k + 1))
     case measure => omega
     case rel => exact ⟨k + 1, false, q ++ [x], by omega, rfl, by go_num, rfl, E.out, ho.out, B2.out⟩
  ·have hki : ¬ ((k : Int) < (l.length : Int)) := by omega
   have E : Hid (wst p l = (d, q)) := by
    have := HS.out
    rw [List.take_of_length_le (by omega)] at this
    exact this
   have hul : q.length ≤ 1000 := by omega
   have BW : Hid (Below W.heap.size W wr) := B1.out.trans (HB.out.mono B1.out.size)
   cases d with
   | true =>
    have R : Hid (insP l p = q) := by show _ = _; unfold insP; rw [E.out]; rfl
    go_wp2_with fail
    go_ret
    exact ⟨_, rfl, by rw [R.out]; exact HP.out.lower B1.out.size, BW.out⟩
   | false =>
    have R : Hid (insP l p = q ++ [p]) := by show _ = _; unfold insP; rw [E.out]; rfl
    go_wp2_with (at_builtin; refine wpList_prt (p := p) rfl _ _ rfl HP.out hul (by exact hw1) rfl rfl ?_; intro v' w2 ho hst)
    have B2 := hid (bel_app (n := 0) HB.out HP.out hst.out)
    go_ret
    exact ⟨_, rfl, by rw [R.out]; exact ho.out.lower B1.out.size, B1.out.trans (B2.out.mono B1.out.size)⟩
set_option maxHeartbeats 1600000 in
set_option maxRecDepth 100000 in
theorem without_any (W : World) (v : Value) (l : List Prt) (comp : Int) (h : PRow W v l) (hl : l.length ≤ 900) :
  Calls Tryz.prog 79 #[v, .int .i64 comp] W fun e W' => ∃ v', e = .returned v' ∧ Prts W.heap.size W' v' (l.filter fun x => !(x.c == comp)) ∧ Below W.heap.size W W' := by
 have H := hid h
 obtain ⟨a, c, rfl, -⟩ := h
 have hli : (l.length : Int) ≤ 900 := by omega
 have I1 := hid (prts_none W)
 go_enter Tryz.func79, Tryz.ntmps79
 go_wp2_with fail
 go_loopg [5, 6] l.length (fun gh ov i wr => ∃ k : Nat, k ≤ l.length ∧ gh = l.length - k ∧ i = .int .i64 (k : Int) ∧ Hid (Prts W.heap.size wr ov ((l.take k).filter fun x => !(x.c == comp))) ∧ Hid (Below W.heap.size W wr))
 case atStart => exact ⟨0, Nat.zero_le _, rfl, rfl, I1.out, bAl _ _⟩
 case round =>
  clear I1
  rename World => wr
  obtain ⟨k, hk, rfl, rfl, HP, HB⟩ := hrel
  have hw1 : W.heap.size ≤ wr.heap.size := HB.out.size
  by_cases hlt : k < l.length
  ·have hki : (k : Int) < (l.length : Int) := by omega
   obtain ⟨x, hx⟩ := at_lt l k hlt
   obtain ⟨b, o, rfl, six⟩ := (H.out.later HB.out).at hx
   obtain ⟨d0, d1, d2, d3, d4, d5⟩ := six
   have TK : Hid ((l.take (k + 1)).filter (fun x => !(x.c == comp)) = (l.take k).filter (fun x => !(x.c == comp)) ++ if x.c = comp then [] else [x]) := by
    show _ = _
    obtain ⟨hl', rfl⟩ := List.getElem?_eq_some_iff.1 hx
    rw [List.take_succ_eq_append_getElem hl', List.filter_append]
    congr 1
    by_cases e : l[k].c = comp <;> simp [e]
   have hul : ((l.take k).filter fun x => !(x.c == comp)).length ≤ 1000 := by
    have := List.length_filter_le (fun x : Prt => !(x.c == comp)) (l.take k)
    have h2 : (l.take k).length ≤ l.length := by simp; omega
    omega
   obtain ⟨oa, oc, rfl⟩ := HP.out.slice
   clear hx
   generalize (l.take k).filter (fun x => !(x.c == comp)) = q at *
   by_cases hc : x.c = comp
   ·have q1 : (x.c == comp) = true := by simp [hc]
    rw [if_pos hc, List.append_nil] at TK
    clear hc
    go_wp2_with fail
    go_roundg (l.length - (k + 1))
    case measure => omega
    case rel => exact ⟨k + 1, by omega, rfl, by go_num, by rw [TK.out]; exact HP.out, HB.out⟩
   ·have q1 : (x.c == comp) = false := by simp [hc]
    rw [if_neg hc] at TK
    go_wp2_with (at_builtin; refine wpList_prt (p := x) rfl _ _ rfl HP.out hul (by exact hw1) rfl rfl ?_; intro v' w2 ho hst)
    have B2 := hid (bel_app (n := 0) HB.out HP.out hst.out)
    go_roundg (l.length - (k + 1))
    case measure => omega
    case rel => exact ⟨k + 1, by omega, rfl, by go_num, by rw [TK.out]; exact ho.out, B2.out⟩
  ·have hki : ¬ ((k : Int) < (l.length : Int)) := by omega
   have E : Hid (l.take k = l) := List.take_of_length_le (by omega)
   go_wp2_with fail
   go_ret
   exact ⟨_, rfl, by have := HP.out; rw [E.out] at this; exact this, HB.out⟩
def mskP (l : List Prt) : Nat := l.foldl (fun m x => m ||| 2 ^ x.c.toNat) 0
def okC (l : List Prt) : Prop := ∀ x ∈ l, 0 ≤ x.c ∧ x.c < 16
theorem mskP_snoc (l : List Prt) (x : Prt) : mskP (l ++ [x]) = mskP l ||| 2 ^ x.c.toNat := by unfold mskP; rw [List.foldl_append]; rfl
theorem mskP_lt (l : List Prt) (h : okC l) : mskP l < 65536 := by
 suffices q : ∀ (l : List Prt) (m : Nat), m < 2 ^ 16 → (∀ x ∈ l, 0 ≤ x.c ∧ x.c < 16) → l.foldl (fun m x => m ||| 2 ^ x.c.toNat) m < 2 ^ 16 from q l 0 (by decide) h
 intro l
 induction l with
 | nil => intro m hm _; exact hm
 | cons x l ih =>
  intro m hm hl
  rw [List.foldl_cons]
  refine ih _ (Nat.or_lt_two_pow hm (Nat.pow_lt_pow_right (by decide) ?_)) fun y hy => hl y (List.mem_cons_of_mem _ hy)
  have := hl x List.mem_cons_self
  omega
set_option maxHeartbeats 1600000 in
set_option maxRecDepth 100000 in
theorem mask_any (W : World) (v : Value) (l : List Prt) (h : PRow W v l) (hl : l.length ≤ 900) (hc : okC l) :
  Calls Tryz.prog 44 #[v] W fun e W' => e = .returned (.int .u32 (mskP l : Int)) ∧ W' = W := by
 have H := hid h
 obtain ⟨a, c, rfl, -⟩ := h
 have hli : (l.length : Int) ≤ 900 := by omega
 have HC := hid hc
 clear hc
 go_enter Tryz.func44, Tryz.ntmps44
 go_wp2_with fail
 go_loopg [3, 4] l.length (fun gh mv i wr => ∃ (k m : Nat), k ≤ l.length ∧ gh = l.length - k ∧ i = .int .i64 (k : Int) ∧ mv = .int .u32 (m : Int) ∧ Hid (m = mskP (l.take k)) ∧ wr = W)
 case atStart => exact ⟨0, 0, Nat.zero_le _, rfl, rfl, rfl, rfl, rfl⟩
 case round =>
  obtain ⟨k, m, hk, rfl, rfl, rfl, HM, rfl⟩ := hrel
  by_cases hlt : k < l.length
  ·have hki : (k : Int) < (l.length : Int) := by omega
   obtain ⟨x, hx⟩ := at_lt l k hlt
   obtain ⟨b, o, rfl, six⟩ := H.out.at hx
   have hxc := HC.out x (List.mem_of_getElem? hx)
   obtain ⟨xc, hxn⟩ : ∃ n : Nat, x.c = (n : Int) := Int.eq_ofNat_of_zero_le hxc.1
   have d0 := six.c0
   rw [hxn] at d0 hxc
   have hcj : (xc : Int) ≤ 32 := by omega
   have hc0 : (0 : Int) ≤ (xc : Int) := by omega
   have hm16 : m < 65536 := by
    rw [HM.out]
    exact mskP_lt _ fun y hy => HC.out y (List.mem_of_mem_take hy)
   have PB : Hid ((2 : Int) ^ xc % 4294967296 = ((2 ^ xc : Nat) : Int)) := by
    show _ = _
    have := At.bitI_in xc (by omega)
    unfold At.bitI at this
    rw [if_pos (by omega), Int.toNat_natCast] at this
    exact this
   have e1 : Hid (bits .or .u32 (m : Int) (2 ^ xc % 4294967296) = ((m ||| 2 ^ xc : Nat) : Int)) := by
    show _ = _
    rw [PB.out, bits_or32 m _ (by omega) (pow32 (by omega))]
   have E : Hid (m ||| 2 ^ xc = mskP (l.take (k + 1))) := by
    show _ = _
    obtain ⟨hl', rfl⟩ := List.getElem?_eq_some_iff.1 hx
    rw [List.take_succ_eq_append_getElem hl', mskP_snoc, ← HM.out, hxn, Int.toNat_natCast]
   clear hx six hxn hm16
   go_wp2_with fail
   rw [e1.out]
   go_roundg (l.length - (k + 1))
   case measure => omega
   case rel => exact ⟨k + 1, _, by omega, rfl, by go_num, rfl, E.out, rfl⟩
  ·have hki : ¬ ((k : Int) < (l.length : Int)) := by omega
   have E : Hid (m = mskP l) := by
    show _ = _
    rw [HM.out, List.take_of_length_le (by omega)]
   go_wp2_with fail
   go_ret
   exact ⟨by rw [E.out]; rfl, rfl⟩
end Rs
namespace Co
open Go.RowKit Go.Shelf Go.Maps
theorem keyed3 : Keyed Tryz.prog 3 := int_keyed Tryz.underlying3
theorem zero3 (w : World) : (zeroValue 3).run Tryz.prog w = .ok (.int .i64 0) w := by kernel_rfl
def I64 (i : Int) : Prop := (Lit.int .i64 i).wf = true
theorem key_int (i : Int) (h : I64 i) : keyOf Tryz.prog 3 (.int .i64 i) = some (.int .i64 i) := keyOf_int_mk Tryz.underlying3 h
theorem I64_mid {n : Int} (h0 : -1000000 ≤ n) (h1 : n ≤ 1000000) : I64 n := by
 unfold I64 Lit.wf
 simp [IntKind.min, IntKind.max, IntKind.signed, IntKind.bits]
 omega
def vI (n : Int) : Value := .int .i64 n
structure Pt where
 a : Int
 b : Int
 c : Int
 d : Int
 t : Int
def Pt.cs (p : Pt) : List Int := [p.a, p.b, p.c, p.d]
def Pt.row (w : Nat) (p : Pt) : List Value := (p.cs.take w).map vI
def Pt.fitB (w : Nat) (p : Pt) : Bool := (p.cs.drop w).all (· == 0)
def Pt.val (comp : Int) (p : Pt) : Value := .agg #[.int .i64 comp, .int .i64 p.a, .int .i64 p.b, .int .i64 p.c, .int .i64 p.d, .int .i64 p.t]
def Pt.arr (comp : Int) (p : Pt) : Array Value := #[.int .i64 comp, .int .i64 p.a, .int .i64 p.b, .int .i64 p.c, .int .i64 p.d, .int .i64 p.t]
def Pt.put (p : Pt) (j : Nat) (x f : Int) : Pt := match j with
 | 0 => ⟨x, p.b, p.c, p.d, f⟩
 | 1 => ⟨p.a, x, p.c, p.d, f⟩
 | 2 => ⟨p.a, p.b, x, p.d, f⟩
 | _ => ⟨p.a, p.b, p.c, x, f⟩
theorem Pt.row_len {w : Nat} (p : Pt) (h : w ≤ 4) : (p.row w).length = w := by simp [Pt.row, Pt.cs]; omega
theorem four {w : Nat} (h0 : 1 ≤ w) (h : w ≤ 4) : w = 1 ∨ w = 2 ∨ w = 3 ∨ w = 4 := by omega
theorem Pt.put_row {w : Nat} (p : Pt) (h : w ≤ 4) {j : Nat} (hj : j < w) (x f : Int) : (p.put j x f).row w = (p.row w).set j (vI x) := by
 rcases four (by omega) h with rfl | rfl | rfl | rfl
 all_goals (match j, hj with
  | 0, _ => rfl
  | 1, _ => rfl
  | 2, _ => rfl
  | 3, _ => rfl)
theorem Pt.put_fit {w : Nat} (p : Pt) (h : w ≤ 4) {j : Nat} (hj : j < w) (x f : Int) : (p.put j x f).fitB w = p.fitB w := by
 rcases four (by omega) h with rfl | rfl | rfl | rfl
 all_goals (match j, hj with
  | 0, _ => first | rfl | omega
  | 1, _ => first | rfl | omega
  | 2, _ => first | rfl | omega
  | 3, _ => first | rfl | omega)
theorem Pt.put_t (p : Pt) (j : Nat) (x f : Int) : (p.put j x f).t = f := by
 unfold Pt.put; split <;> rfl
theorem Pt.filled {w : Nat} (p : Pt) (h0 : 1 ≤ w) (h : w ≤ 4) (hf : p.fitB w = true) (comp : Int) :
  ((#[.int .i64 comp, .int .i64 0, .int .i64 0, .int .i64 0, .int .i64 0, .int .i64 p.t] : Array Value).toList.take 1 ++ p.row w ++ (#[.int .i64 comp, .int .i64 0, .int .i64 0, .int .i64 0, .int .i64 0, .int .i64 p.t] : Array Value).toList.drop (1 + (p.row w).length)).toArray = p.arr comp := by
 obtain ⟨a, b, c, d, t⟩ := p
 rcases four h0 h with rfl | rfl | rfl | rfl
 all_goals
  simp [Pt.fitB, Pt.cs] at hf
  simp [Pt.row, Pt.cs, Pt.arr, vI, hf]
def flat (w : Nat) (l : List Pt) : List Value := l.flatMap (Pt.row w)
theorem flat_snoc (w : Nat) (l : List Pt) (p : Pt) : flat w (l ++ [p]) = flat w l ++ p.row w := by simp [flat]
theorem flat_cons (w : Nat) (l : List Pt) (p : Pt) : flat w (p :: l) = p.row w ++ flat w l := by simp [flat]
theorem flat_len {w : Nat} (h : w ≤ 4) (l : List Pt) : (flat w l).length = l.length * w := by
 induction l with
 | nil => simp [flat]
 | cons p l ih => rw [flat_cons, List.length_append, ih, p.row_len h, List.length_cons, Nat.succ_mul]; omega
theorem flat_take {w : Nat} (h : w ≤ 4) (l : List Pt) (m : Nat) (hm : m ≤ l.length) : (flat w l).take (m * w) = flat w (l.take m) := by
 induction l generalizing m with
 | nil => simp at hm; subst hm; simp [flat]
 | cons p l ih =>
  cases m with
  | zero => simp [flat]
  | succ m =>
   rw [List.take_succ_cons, flat_cons, flat_cons, Nat.succ_mul, show m * w + w = (p.row w).length + m * w by rw [p.row_len h]; omega, List.take_length_add_append, ih m (by simpa using hm)]
theorem flat_drop {w : Nat} (h : w ≤ 4) (l : List Pt) (m : Nat) (hm : m ≤ l.length) : (flat w l).drop (m * w) = flat w (l.drop m) := by
 induction l generalizing m with
 | nil => simp at hm; subst hm; simp [flat]
 | cons p l ih =>
  cases m with
  | zero => simp [flat]
  | succ m =>
   rw [List.drop_succ_cons, flat_cons, Nat.succ_mul, show m * w + w = (p.row w).length + m * w by rw [p.row_len h]; omega, List.drop_length_add_append, ih m (by simpa using hm)]
theorem flat_at {w : Nat} (h : w ≤ 4) {l : List Pt} {n : Nat} {p : Pt} (hn : l[n]? = some p) {j : Nat} (hj : j < w) : (flat w l)[n * w + j]? = (p.row w)[j]? := by
 obtain ⟨hl, rfl⟩ := List.getElem?_eq_some_iff.1 hn
 have e := flat_drop h l n (by omega)
 rw [← List.getElem?_drop, e, List.drop_eq_getElem_cons hl, flat_cons, List.getElem?_append_left (by rw [Pt.row_len _ h]; exact hj)]
theorem flat_splice {w : Nat} (h : w ≤ 4) {l : List Pt} {n : Nat} (hn : n < l.length) (p : Pt) : (flat w l).take (n * w) ++ p.row w ++ (flat w l).drop (n * w + w) = flat w (l.set n p) := by
 rw [flat_take h l n (by omega), show n * w + w = (n + 1) * w by rw [Nat.succ_mul], flat_drop h l (n + 1) (by omega), ← flat_snoc, List.set_eq_take_append_cons_drop, if_pos hn]
 simp [flat]
theorem flat_set {w : Nat} (h : w ≤ 4) {l : List Pt} {n : Nat} {p : Pt} (hn : l[n]? = some p) {j : Nat} (hj : j < w) (x f : Int) : (flat w l).set (n * w + j) (vI x) = flat w (l.set n (p.put j x f)) := by
 have hl := (List.getElem?_eq_some_iff.1 hn).1
 rw [← flat_splice h hl, Pt.put_row p h hj]
 apply List.ext_getElem?
 intro m
 have hlen := flat_len h l
 have hnl : n * w + w ≤ l.length * w := by rw [← Nat.succ_mul]; exact Nat.mul_le_mul_right w hl
 have hr := p.row_len h
 rw [List.getElem?_set]
 by_cases h1 : m < n * w
 ·rw [if_neg (by omega), List.getElem?_append_left (by simp; omega), List.getElem?_append_left (by simp; omega), List.getElem?_take_of_lt h1]
 ·by_cases h2 : m < n * w + w
  ·rw [List.getElem?_append_left (by simp; omega), List.getElem?_append_right (by simp; omega)]
   have e : m - ((flat w l).take (n * w)).length = m - n * w := by simp; omega
   rw [e, List.getElem?_set]
   by_cases h3 : n * w + j = m
   ·rw [if_pos h3, if_pos (by omega), if_pos (by omega), if_pos (by omega)]
   ·rw [if_neg h3, if_neg (by omega)]
    have := flat_at h hn (j := m - n * w) (by omega)
    rw [show n * w + (m - n * w) = m by omega] at this
    exact this
  ·rw [if_neg (by omega), List.getElem?_append_right (by simp; omega)]
   have e : m - ((flat w l).take (n * w) ++ (p.row w).set j (vI x)).length = m - (n * w + w) := by simp; omega
   rw [e, List.getElem?_drop, show n * w + w + (m - (n * w + w)) = m by omega]
theorem row_one (w : Nat) (p : Pt) : ∀ u ∈ p.row w, u.oneCell' = true := by
 intro u hu
 simp only [Pt.row, List.mem_map] at hu
 obtain ⟨x, _, rfl⟩ := hu
 rfl
def rowAt (l : List Pt) (i : Int) : Option Pt := if 0 ≤ i then l[i.toNat]? else none
theorem rowAt_nat (l : List Pt) (n : Nat) : rowAt l (n : Int) = l[n]? := by simp [rowAt]
def tickAt (l : List Pt) (i : Int) : Int := match rowAt l i with | some p => p.t | none => 0
def Holds (D : DataW Unit) (l : List Pt) : Prop :=
 (∀ i, I64 i → Maps.has D (.int .i64 i) = (rowAt l i).isSome ∧ D.atKey (.int .i64 i) (.lit (.int .i64 0)) = .lit (.int .i64 (tickAt l i))) ∧ Maps.size D = l.length
theorem isKeyI (i : Int) : WideAt.IsKeyLit (.int .i64 i) := trivial
theorem key_ne {i j : Int} (h : i ≠ j) : (Lit.int .i64 i) ≠ .int .i64 j := fun e => h (by simpa using e)
theorem rowAt_snoc (l : List Pt) (p : Pt) (i : Int) : rowAt (l ++ [p]) i = if i = (l.length : Int) then some p else rowAt l i := by
 unfold rowAt
 by_cases h0 : 0 ≤ i
 ·rw [if_pos h0, if_pos h0]
  by_cases h1 : i = (l.length : Int)
  ·rw [if_pos h1]; subst h1; simp
  ·rw [if_neg h1, List.getElem?_append]
   split
   ·rfl
   ·rename_i h2
    rw [List.getElem?_eq_none (by simp; omega), List.getElem?_eq_none (by omega)]
 ·rw [if_neg h0, if_neg h0, if_neg (by omega)]
theorem rowAt_set (l : List Pt) (n : Nat) (p : Pt) (h : n < l.length) (i : Int) : rowAt (l.set n p) i = if i = (n : Int) then some p else rowAt l i := by
 unfold rowAt
 by_cases h0 : 0 ≤ i
 ·rw [if_pos h0, if_pos h0]
  by_cases h1 : i = (n : Int)
  ·rw [if_pos h1]; subst h1; simp [h]
  ·rw [if_neg h1, List.getElem?_set_ne (by omega)]
 ·rw [if_neg h0, if_neg h0, if_neg (by omega)]
theorem rowAt_drop (l : List Pt) (i : Int) : rowAt l.dropLast i = if i = (l.length : Int) - 1 then none else rowAt l i := by
 unfold rowAt
 by_cases h0 : 0 ≤ i
 ·rw [if_pos h0, if_pos h0]
  by_cases h1 : i = (l.length : Int) - 1
  ·rw [if_pos h1]; exact List.getElem?_eq_none (by simp; omega)
  ·rw [if_neg h1, List.getElem?_dropLast]
   split
   ·rfl
   ·exact (List.getElem?_eq_none (by omega)).symm
 ·rw [if_neg h0, if_neg h0]; split <;> rfl
theorem Holds.snoc {D : DataW Unit} {l : List Pt} (hD : Tidy D) (h : Holds D l) (p : Pt) (hn : I64 (l.length : Int)) : Holds (D.put (.int .i64 (l.length : Int)) (.lit (.int .i64 p.t))) (l ++ [p]) := by
 refine ⟨fun i hi => ?_, ?_⟩
 ·unfold tickAt
  rw [rowAt_snoc]
  by_cases e : i = (l.length : Int)
  ·subst e
   rw [if_pos rfl]
   exact ⟨Maps.has_put_same hD.isMap (isKeyI _) _, Maps.atKey_put_same hD.isMap (isKeyI _) _ _⟩
  ·rw [if_neg e, Maps.has_put_other (key_ne e), Maps.atKey_put_other (key_ne e)]
   exact h.1 i hi
 ·rw [Maps.size_put hD, (h.1 _ hn).1, rowAt_nat, h.2]
  simp
theorem Holds.set {D : DataW Unit} {l : List Pt} (hD : Tidy D) (h : Holds D l) {n : Nat} (hl : n < l.length) (p : Pt) (hn : I64 (n : Int)) : Holds (D.put (.int .i64 (n : Int)) (.lit (.int .i64 p.t))) (l.set n p) := by
 refine ⟨fun i hi => ?_, ?_⟩
 ·unfold tickAt
  rw [rowAt_set l n p hl]
  by_cases e : i = (n : Int)
  ·subst e
   rw [if_pos rfl]
   exact ⟨Maps.has_put_same hD.isMap (isKeyI _) _, Maps.atKey_put_same hD.isMap (isKeyI _) _ _⟩
  ·rw [if_neg e, Maps.has_put_other (key_ne e), Maps.atKey_put_other (key_ne e)]
   exact h.1 i hi
 ·rw [Maps.size_put hD, (h.1 _ hn).1, rowAt_nat, h.2, List.getElem?_eq_getElem hl]
  simp
theorem Holds.drop {D : DataW Unit} {l : List Pt} (hD : Tidy D) (h : Holds D l) (h0 : 0 < l.length) (hn : I64 ((l.length : Int) - 1)) : Holds (D.del (.int .i64 ((l.length : Int) - 1))) l.dropLast := by
 refine ⟨fun i hi => ?_, ?_⟩
 ·unfold tickAt
  rw [rowAt_drop]
  by_cases e : i = (l.length : Int) - 1
  ·subst e
   rw [if_pos rfl]
   exact ⟨Maps.has_del_same, Maps.atKey_del_same _⟩
  ·rw [if_neg e, Maps.has_del_other (key_ne e), Maps.atKey_del_other (key_ne e)]
   exact h.1 i hi
 ·have := Maps.size_del (k := .int .i64 ((l.length : Int) - 1)) hD
  have e : rowAt l ((l.length : Int) - 1) = l[l.length - 1]? := by
   rw [← rowAt_nat]; congr 1; omega
  rw [(h.1 _ hn).1, e, List.getElem?_eq_getElem (by omega), h.2] at this
  simp at this ⊢
  omega
theorem own_size {W : World} {mb n : Nat} {D : DataW Unit} (h : W.ownsMap Tryz.prog 3 (plainElem Tryz.prog 3) mb n D) {m : Nat} (hm : Maps.size D = m) : W.ownsMap Tryz.prog 3 (plainElem Tryz.prog 3) mb m D := by
 obtain ⟨es, clock, hb, F, _, rfl⟩ := h
 refine ⟨es, clock, hb, F, ?_, rfl⟩
 rw [← hm]
 simp [Maps.size, length_sorted]
theorem look_two {W : World} {mb n : Nat} {D : DataW Unit} {l : List Pt} (h : W.ownsMap Tryz.prog 3 (plainElem Tryz.prog 3) mb n D) (hH : Holds D l) (i : Int) (hi : I64 i) :
  (Instr.lookup 222 (.map (some mb)) (.int .i64 i) true).run Tryz.prog W = .ok (.tuple #[.int .i64 (tickAt l i), .bool (rowAt l i).isSome]) W := by
 obtain ⟨v, ps, hr, hv⟩ := h.look_ok keyed3 Tryz.underlying222 (zero3 W) (plainElem_int Tryz.underlying3 (by decide)) (key_int i hi)
 obtain ⟨a, rfl, e, _⟩ := plainElem_int_inv Tryz.underlying3 hv
 rw [(hH.1 i hi).2] at e
 simp only [Prod.mk.injEq, DataW.lit.injEq, Lit.int.injEq, true_and] at e
 rw [hr, (hH.1 i hi).1, e.1]
theorem look_one {W : World} {mb n : Nat} {D : DataW Unit} {l : List Pt} (h : W.ownsMap Tryz.prog 3 (plainElem Tryz.prog 3) mb n D) (hH : Holds D l) (i : Int) (hi : I64 i) :
  (Instr.lookup 222 (.map (some mb)) (.int .i64 i) false).run Tryz.prog W = .ok (.int .i64 (tickAt l i)) W := by
 obtain ⟨c, hr, e, _⟩ := h.lookup_int keyed3 Tryz.underlying222 Tryz.underlying3 (zero3 W) (key_int i hi)
 rw [(hH.1 i hi).2] at e
 simp only [DataW.lit.injEq, Lit.int.injEq, true_and] at e
 rw [hr, e]
structure St (S : Nat → Prop) (W W' : World) : Prop where
 os : W'.os = W.os
 tape : W'.tape = W.tape
 output : W'.output = W.output
 size : W.heap.size ≤ W'.heap.size
 block : ∀ k, k < W.heap.size → ¬ S k → W'.heap[k]? = W.heap[k]?
theorem St.trans {S T : Nat → Prop} {a b c : World} (h : St S a b) (k : St T b c) (hs : ∀ x, x < a.heap.size → T x → S x) : St S a c :=
 ⟨k.os.trans h.os, k.tape.trans h.tape, k.output.trans h.output, Nat.le_trans h.size k.size, fun x hx hn => (k.block x (Nat.lt_of_lt_of_le hx h.size) (fun q => hn (hs x hx q))).trans (h.block x hx hn)⟩
theorem St.of_below {S : Nat → Prop} {a b : World} (h : Below a.heap.size a b) : St S a b := ⟨h.os, h.tape, h.output, h.size, fun k hk _ => h.block k hk⟩
theorem St.of_grown {S : Nat → Prop} {a b : World} {row : Option Nat} (h : a.grownBy b row) (hS : ∀ k, row = some k → S k) : St S a b :=
 ⟨h.os, h.tape, h.output, h.size, fun k hk hn => h.block k hk (fun e => hn (hS k e.symm))⟩
theorem St.below {S : Nat → Prop} {a b : World} {B : Nat} (h : St S a b) (hS : ∀ k, S k → B ≤ k) (hB : B ≤ a.heap.size) : Below B a b :=
 ⟨h.os, h.tape, h.output, h.size, fun k hk => h.block k (by omega) (fun q => by have := hS k q; omega)⟩
theorem St.setCell {S : Nat → Prop} {a : World} {p : Addr} (v : Value) (hp : S p.block) : St S a (a.setCell p v) :=
 ⟨rfl, rfl, rfl, by simp, fun k _ hn => Below.heap_setCell _ _ _ _ (fun e => hn (e ▸ hp))⟩
theorem St.at {S : Nat → Prop} {W W' : World} {b : Nat} {o : Obj} (hs : St S W W') (h : W.heap[b]? = some o) (hn : ¬ S b) : W'.heap[b]? = some o := (hs.block b (Array.getElem?_eq_some_iff.1 h).1 hn).trans h
theorem bAl (W : World) (o : Obj) : Below W.heap.size W (W.alloc o) := (Below.refl _ _).alloc (Nat.le_refl _) _
theorem cell_blk {W : World} {b j : Nat} {cs : Array Value} {e : TypeId} {u : Value} (h : W.heap[b]? = some (.cells cs e (0, 0))) (hj : cs[j]? = some u) : W.cell? ⟨b, j, none⟩ = some u := by
 rw [cell_of_row _ _ j _ e (0, 0) h]; exact hj
theorem blk_free {W : World} {b : Nat} {cs : Array Value} {e : TypeId} (h : W.heap[b]? = some (.cells cs e (0, 0))) (j : Nat) : W.frozen? ⟨b, j, none⟩ = false := by
 unfold World.frozen?
 rw [show (⟨b, j, none⟩ : Addr).block = b from rfl, h]
 simp
theorem blk_seen {W W' : World} {B b : Nat} {o : Obj} (hb : Below B W W') (hB : W.heap.size ≤ B) (h : W.heap[b]? = some o) : W'.heap[b]? = some o := (hb.block b (Nat.lt_of_lt_of_le (Array.getElem?_eq_some_iff.1 h).1 hB)).trans h
theorem seen {B : Nat} {W W' : World} (hb : Below B W W') (hB : W.heap.size ≤ B) {p : Addr} {u : Value} (h : W.cell? p = some u) : W'.cell? p = some u := (hb.cell (p := p) (Nat.lt_of_lt_of_le (World.block_lt_of_cell? W p h) hB)).trans h
structure CS where
 comp : Int
 w : Nat
 rows : List Pt
structure CS.ok (s : CS) : Prop where
 w0 : 1 ≤ s.w
 w4 : s.w ≤ 4
 fit : ∀ p ∈ s.rows, p.fitB s.w = true ∧ I64 p.t
def Ft (rb mb : Nat) (sv : Value) (k : Nat) : Prop := k = rb ∨ k = mb ∨ sv.ownBlock = some k
structure Cl (B : Nat) (W : World) (rb mb : Nat) (sv : Value) (s : CS) : Prop where
 box : W.heap[rb]? = some (.cells #[.int .i64 s.comp, .int .i64 (s.w : Int), sv, .map (some mb)] 224 (0, 0))
 row : W.ownsRow B 3 1 sv (s.rows.length * s.w) (flat s.w s.rows)
 map : ∃ D, W.ownsMap Tryz.prog 3 (plainElem Tryz.prog 3) mb s.rows.length D ∧ Holds D s.rows
 ok : s.ok
 small : s.rows.length ≤ 1000
 low : B ≤ rb ∧ B ≤ mb
section
variable {B : Nat} {W W' : World} {rb mb : Nat} {sv : Value} {s : CS}
theorem Cl.kept {T : Nat → Prop} (h : Cl B W rb mb sv s) (hs : St T W W') (hd : ∀ k, Ft rb mb sv k → ¬ T k) : Cl B W' rb mb sv s := by
 have lt := fun {k : Nat} {o : Obj} (h : W.heap[k]? = some o) => (Array.getElem?_eq_some_iff.1 h).1
 refine ⟨(hs.block rb (lt h.box) (hd _ (.inl rfl))).trans h.box, ?_, ?_, h.ok, h.small, h.low⟩
 ·exact own_later h.row fun g cur hg hb => (hs.block g (lt hb) (hd _ (.inr (.inr hg)))).trans hb
 ·obtain ⟨D, ⟨es, clock, hb, q⟩, hH⟩ := h.map
  exact ⟨D, ⟨es, clock, (hs.block mb (lt hb) (hd _ (.inr (.inl rfl)))).trans hb, q⟩, hH⟩
theorem Cl.later (h : Cl B W rb mb sv s) (hb : Below W.heap.size W W') : Cl B W' rb mb sv s := h.kept (T := fun _ => False) (St.of_below hb) (fun _ _ q => q)
theorem Cl.lt (h : Cl B W rb mb sv s) (k : Nat) (hk : Ft rb mb sv k) : B ≤ k ∧ k < W.heap.size := by
 have lt := fun {k : Nat} {o : Obj} (h : W.heap[k]? = some o) => (Array.getElem?_eq_some_iff.1 h).1
 rcases hk with rfl | rfl | hk
 ·exact ⟨h.low.1, lt h.box⟩
 ·obtain ⟨D, hD, _⟩ := h.map; exact ⟨h.low.2, hD.lt⟩
 ·exact h.row.lt k hk
theorem Cl.base (h : Cl B W rb mb sv s) : B ≤ W.heap.size := by have := h.lt rb (.inl rfl); omega
theorem Cl.c0 (h : Cl B W rb mb sv s) : W.cell? ⟨rb, 0, none⟩ = some (.int .i64 s.comp) := cell_blk h.box rfl
theorem Cl.c1 (h : Cl B W rb mb sv s) : W.cell? ⟨rb, 1, none⟩ = some (.int .i64 (s.w : Int)) := cell_blk h.box rfl
theorem Cl.c2 (h : Cl B W rb mb sv s) : W.cell? ⟨rb, 2, none⟩ = some sv := cell_blk h.box rfl
theorem Cl.c3 (h : Cl B W rb mb sv s) : W.cell? ⟨rb, 3, none⟩ = some (.map (some mb)) := cell_blk h.box rfl
theorem Cl.ne_rm (h : Cl B W rb mb sv s) : rb ≠ mb := fun e => by
 have h1 := h.box
 obtain ⟨D, ⟨es, cl, hb, _⟩, _⟩ := h.map
 rw [e, hb] at h1
 simp at h1
theorem Cl.ne_f (h : Cl B W rb mb sv s) (k : Nat) (hk : sv.ownBlock = some k) : k ≠ rb ∧ k ≠ mb := by
 rcases h.row.2 with ⟨h1, _⟩ | ⟨g, cap, cur, h1, h2, h3, h4⟩
 ·rw [h1] at hk; simp [Value.ownBlock] at hk
 ·rw [h1] at hk
  have e : g = k := by simpa [Value.ownBlock] using hk
  subst e
  refine ⟨fun e => ?_, fun e => ?_⟩
  ·rw [e, h.box] at h3; simp at h3
  ·obtain ⟨D, ⟨es, cl, hb, _⟩, _⟩ := h.map
   rw [e, hb] at h3; simp at h3
theorem Cl.cells (h : Cl B W rb mb sv s) (h0 : 0 < s.rows.length) : ∃ g cap cur, sv = .slice (some ⟨g, 0, none⟩) (s.rows.length * s.w) cap ∧ B ≤ g ∧ W.heap[g]? = some (.cells cur 3 (0, 0)) ∧ s.rows.length * s.w ≤ cap ∧ cap ≤ maxLen ∧ cur.size = cap ∧ cur.toList.take (s.rows.length * s.w) = flat s.w s.rows := by
 have hp : 0 < s.rows.length * s.w := Nat.mul_pos h0 h.ok.w0
 rcases h.row.2 with ⟨_, h2⟩ | ⟨g, cap, cur, h1, h2, h3, h4, h5, h6, h7⟩
 ·omega
 ·exact ⟨g, cap, cur, h1, h2, h3, h4, h5, by simpa using h6, by simpa using h7⟩
end
theorem len_map {W : World} {mb t : Nat} {D : DataW Unit} (hD : W.ownsMap Tryz.prog 3 (plainElem Tryz.prog 3) mb t D) (n : Nat) (hn : Maps.size D = n) (ty : TypeId) :
  (Builtin.len_ #[222] ty #[.map (some mb)]).run Tryz.prog W = .ok (.int .i64 (n : Int)) W := by
 rw [← hn]; exact hD.len Tryz.underlying222 ty
set_option maxHeartbeats 800000 in
theorem len_any {B : Nat} {W : World} {rb mb : Nat} {sv : Value} {s : CS} (h : Cl B W rb mb sv s) :
  Calls Tryz.prog 124 #[.pointer (some ⟨rb, 0, none⟩)] W fun e W' => e = .returned (.int .i64 (s.rows.length : Int)) ∧ W' = W := by
 have c3 := h.c3
 obtain ⟨D, hD, hH⟩ := h.map
 have hl := len_map hD s.rows.length hH.2
 clear hD hH h
 go_enter Tryz.func124, Tryz.ntmps124
 go_wp2
 go_ret
 exact ⟨rfl, rfl⟩
set_option maxHeartbeats 400000 in
theorem len_nil (W : World) : Calls Tryz.prog 124 #[.pointer none] W fun e W' => e = .returned (.int .i64 0) ∧ W' = W := by
 go_enter Tryz.func124, Tryz.ntmps124
 go_wp2
 go_ret
 exact ⟨rfl, rfl⟩
set_option maxHeartbeats 1600000 in
set_option maxRecDepth 100000 in
theorem crow_any {W : World} {rb g n w L cap o : Nat} (c1 : W.cell? ⟨rb, 1, none⟩ = some (.int .i64 (w : Int))) (c2 : W.cell? ⟨rb, 2, none⟩ = some (.slice (some ⟨g, 0, none⟩) L cap)) (ho : n * w = o) (hL : o + w ≤ L) (hc : L ≤ cap) (hL4 : L ≤ 4000) (hw0 : 1 ≤ w) (hw : w ≤ 4) (hn : n ≤ 1000) :
  Calls Tryz.prog 120 #[.pointer (some ⟨rb, 0, none⟩), .int .i64 (n : Int)] W fun e W' => e = .returned (.slice (some ⟨g, o, none⟩) w (cap - o)) ∧ ∃ m, W' = W.drewN m := by
 have e1 : (n : Int) * (w : Int) = (o : Int) := by rw [← ho]; simp
 have e2 : ((n : Int) + 1) * (w : Int) = ((o + w : Nat) : Int) := by rw [Int.add_mul, e1]; simp
 have b1 : (n : Int) ≤ 1000 := by omega
 have b2 : (o : Int) ≤ 4000 := by omega
 have b3 : ((o + w : Nat) : Int) ≤ (L : Int) := by omega
 have b4 : (L : Int) ≤ (cap : Int) := by omega
 have b5 : (o : Int) ≤ ((o + w : Nat) : Int) := by omega
 have b6 : ((o + w : Nat) : Int) ≤ 4000 := by omega
 have b7 : ((o + w : Nat) : Int) ≤ (cap : Int) := by omega
 have b8 : ¬ (cap = o) := by omega
 have E : Hid (o + w - o = w) := by show o + w - o = w; omega
 clear ho
 go_enter Tryz.func120, Tryz.ntmps120
 go_wp2_with fail
 go_quiet (fail)
 go_wp2
 go_ret
 exact ⟨by rw [E.out]; rfl, _, rfl⟩
end Co
end Go.Proofs.YtnlcbheidiigaaaGreatDoor
