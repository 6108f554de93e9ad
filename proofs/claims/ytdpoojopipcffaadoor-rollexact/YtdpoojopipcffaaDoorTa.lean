/- The document's roll: New, Take, Alive. -/
import Derived.Test.YtdpoojopipcffaaDoorRm
namespace Go.Proofs.YtdpoojopipcffaaDoor
open Go.RowKit Go.Shelf Go.Maps
/-- Which places are given. -/
def RS.isL (r : RS) : List Bool := (List.range r.gens.length).map fun i => decide (i ∉ r.free)
theorem RS.isL_len (r : RS) : r.isL.length = r.gens.length := by simp [RS.isL]
theorem RS.isL_at {r : RS} {k : Nat} (hk : k < r.gens.length) : r.isL[k]? = some (decide (k ∉ r.free)) := by simp [RS.isL, hk]
def Fu (ub gb ib : Nat) (fv : Value) (k : Nat) : Prop := k = ub ∨ k = gb ∨ k = ib ∨ fv.ownBlock = some k
/-- The document's roll in memory. -/
structure Rr (B : Nat) (W : World) (ub gb ib : Nat) (fv : Value) (t : Nat) (r : RS) : Prop where
  box : W.heap[ub]? = some (.cells #[.slice (some ⟨gb, 0, none⟩) r.gens.length r.gens.length, .slice (some ⟨ib, 0, none⟩) r.gens.length r.gens.length, fv] 58 (0, 0))
  gens : W.heap[gb]? = some (.cells (r.gens.map gI).toArray 3 (0, 0))
  isb : W.heap[ib]? = some (.cells (r.isL.map Value.bool).toArray 4 (0, 0))
  free : W.ownsRow B 3 1 fv r.free.length (r.free.map gI)
  ok : r.ok
  small : r.gens.length ≤ 64
  old : ∀ g ∈ r.gens, g ≤ t
  low : B ≤ ub ∧ B ≤ gb ∧ B ≤ ib
  apart : fv.ownBlock ≠ some gb
  nz : 0 < r.gens.length → ∃ g, fv.ownBlock = some g
section
variable {B : Nat} {W W' : World} {ub gb ib t : Nat} {fv : Value} {r : RS}
theorem Rr.kept {T : Nat → Prop} (h : Rr B W ub gb ib fv t r) (hs : St T W W') (hd : ∀ k, Fu ub gb ib fv k → ¬ T k) : Rr B W' ub gb ib fv t r :=
  ⟨hs.at h.box (hd _ (.inl rfl)), hs.at h.gens (hd _ (.inr (.inl rfl))), hs.at h.isb (hd _ (.inr (.inr (.inl rfl)))), own_later h.free fun _ _ hg hb => hs.at hb (hd _ (.inr (.inr (.inr hg)))), h.ok, h.small, h.old, h.low, h.apart, h.nz⟩
theorem Rr.later (h : Rr B W ub gb ib fv t r) (hb : Below W.heap.size W W') : Rr B W' ub gb ib fv t r := h.kept (T := fun _ => False) (St.of_below hb) (fun _ _ q => q)
theorem Rr.lt (h : Rr B W ub gb ib fv t r) (k : Nat) (hk : Fu ub gb ib fv k) : B ≤ k ∧ k < W.heap.size := by
  have lt := fun {k : Nat} {o : Obj} (h : W.heap[k]? = some o) => (Array.getElem?_eq_some_iff.1 h).1
  rcases hk with rfl | rfl | rfl | hk
  · exact ⟨h.low.1, lt h.box⟩
  · exact ⟨h.low.2.1, lt h.gens⟩
  · exact ⟨h.low.2.2, lt h.isb⟩
  · exact h.free.lt k hk
theorem Rr.ne_ug (h : Rr B W ub gb ib fv t r) : ub ≠ gb := fun e => by have h1 := h.box; rw [e, h.gens] at h1; simp at h1
theorem Rr.ne_ui (h : Rr B W ub gb ib fv t r) : ub ≠ ib := fun e => by have h1 := h.box; rw [e, h.isb] at h1; simp at h1
theorem Rr.ne_gi (h : Rr B W ub gb ib fv t r) : gb ≠ ib := fun e => by have h1 := h.gens; rw [e, h.isb] at h1; simp at h1
theorem Rr.ne_f (h : Rr B W ub gb ib fv t r) (k : Nat) (hk : fv.ownBlock = some k) : k ≠ ub ∧ k ≠ gb ∧ k ≠ ib := by
  rcases h.free.2 with ⟨h1, _⟩ | ⟨g, cap, cur, h1, h2, h3, h4⟩
  · rw [h1] at hk; simp [Value.ownBlock] at hk
  · rw [h1] at hk
    obtain rfl : g = k := by simpa [Value.ownBlock] using hk
    refine ⟨fun e => ?_, fun e => h.apart (by rw [h1, ← e]; rfl), fun e => ?_⟩
    · rw [e, h.box] at h3; simp at h3
    · rw [e, h.isb] at h3; simp at h3
theorem Rr.few (h : Rr B W ub gb ib fv t r) : r.free.length ≤ r.gens.length := by
  have h1 := RS.upto_count h.ok.1 r.gens.length
  have h2 : (r.free.filter fun x => decide (x < r.gens.length)) = r.free := List.filter_eq_self.2 fun x hx => by simpa using h.ok.2 x hx
  rw [h2] at h1
  omega
theorem Rr.c0 (h : Rr B W ub gb ib fv t r) : W.cell? ⟨ub, 0, none⟩ = some (.slice (some ⟨gb, 0, none⟩) r.gens.length r.gens.length) := cell_blk h.box rfl
theorem Rr.c1 (h : Rr B W ub gb ib fv t r) : W.cell? ⟨ub, 1, none⟩ = some (.slice (some ⟨ib, 0, none⟩) r.gens.length r.gens.length) := cell_blk h.box rfl
theorem Rr.c2 (h : Rr B W ub gb ib fv t r) : W.cell? ⟨ub, 2, none⟩ = some fv := cell_blk h.box rfl
theorem Rr.cg (h : Rr B W ub gb ib fv t r) {k : Nat} (hk : k < r.gens.length) : W.cell? ⟨gb, k, none⟩ = some (.int .i64 ((r.gens.getD k 0 : Nat) : Int)) := by
  refine cell_blk h.gens ?_
  simp [gI, hk, List.getD_eq_getElem?_getD]
theorem Rr.ci (h : Rr B W ub gb ib fv t r) {k : Nat} (hk : k < r.gens.length) : W.cell? ⟨ib, k, none⟩ = some (.bool (decide (k ∉ r.free))) := by
  refine cell_blk h.isb ?_
  have := RS.isL_at hk
  simp [this]
end
theorem alive_split {r : RS} {k : Nat} (g : Int) (hk : k < r.gens.length) : r.aliveB (k : Int) g = (decide (k ∉ r.free) && (((r.gens.getD k 0 : Nat) : Int) == g)) := by
  have h1 : r.gens[k]? = some (r.gens.getD k 0) := by rw [List.getD_eq_getElem?_getD, List.getElem?_eq_getElem hk]; rfl
  generalize r.gens.getD k 0 = m at *
  rw [Bool.eq_iff_iff, RS.aliveB_iff, Bool.and_eq_true, decide_eq_true_iff, beq_iff_eq, Int.toNat_natCast, h1]
  simp only [Option.some.injEq]
  constructor
  · rintro ⟨_, b, c, d⟩; exact ⟨c, by omega⟩
  · rintro ⟨c, d⟩; exact ⟨by omega, by omega, c, by omega⟩
theorem alive_out {r : RS} {i g : Int} (h : i < 0 ∨ (r.gens.length : Int) ≤ i) : r.aliveB i g = false := by
  rw [Bool.eq_false_iff]
  intro ha
  obtain ⟨a, b, c, d⟩ := (RS.aliveB_iff _ _ _).1 ha
  have := (List.getElem?_eq_some_iff.1 d).1
  omega
set_option maxHeartbeats 1600000 in
set_option maxRecDepth 100000 in
theorem ralive_any {B : Nat} {W : World} {ub gb ib t : Nat} {fv : Value} {r : RS} (h : Rr B W ub gb ib fv t r) (i g : Int) :
    Calls Tryd.prog 16 #[.pointer (some ⟨ub, 0, none⟩), .agg #[.int .i64 i, .int .i64 g]] W fun e W' => e = .returned (.bool (r.aliveB i g)) ∧ Below W.heap.size W W' := by
  have h1 := h.later (bAl W (.cells #[.int .i64 i, .int .i64 g] 24))
  obtain ⟨d0, d1⟩ := cell_new2 W (.int .i64 i) (.int .i64 g) 24
  have c0 := h.c0
  have c1 := h.c1
  have l1 : ub < W.heap.size := (h.lt ub (.inl rfl)).2
  have l2 : gb < W.heap.size := (h.lt gb (.inr (.inl rfl))).2
  have l3 : ib < W.heap.size := (h.lt ib (.inr (.inr (.inl rfl)))).2
  have n1 : ¬ (ub = W.heap.size) := by omega
  have n2 : ¬ (gb = W.heap.size) := by omega
  have n3 : ¬ (ib = W.heap.size) := by omega
  by_cases hi0 : i < 0
  · rw [alive_out (.inl hi0)]
    have hd : decide (0 ≤ i) = false := by simpa using hi0
    clear h h1 d0 d1
    go_enter Tryd.func16, Tryd.ntmps16
    go_wp2_with fail
    go_quiet (fail)
    go_wp2_with fail
    go_ret
    exact ⟨rfl, (bAl _ _).trans (drewN_below _ _ _)⟩
  · by_cases hin : (r.gens.length : Int) ≤ i
    · rw [alive_out (.inr hin)]
      have hd : decide (0 ≤ i) = true := by simp; omega
      have hd2 : decide (i < (r.gens.length : Int)) = false := by simp; omega
      clear h h1 d0 d1
      go_enter Tryd.func16, Tryd.ntmps16
      go_wp2_with fail
      go_quiet (fail)
      go_wp2_with fail
      go_ret
      exact ⟨rfl, (bAl _ _).trans (drewN_below _ _ _)⟩
    · obtain ⟨k, rfl⟩ := Int.eq_ofNat_of_zero_le (show 0 ≤ i by omega)
      have hk : k < r.gens.length := by omega
      have hki : (k : Int) < (r.gens.length : Int) := by omega
      rw [alive_split g hk]
      have hd : decide (0 ≤ (k : Int)) = true := by simp
      have hd2 : decide ((k : Int) < (r.gens.length : Int)) = true := by simp; omega
      have x1 := h.ci hk
      have x2 := h.cg hk
      have hsm : (r.gens.length : Int) ≤ 64 := by have := h.small; omega
      generalize r.gens.getD k 0 = m at *
      by_cases hf : k ∈ r.free
      · have hq : decide (k ∉ r.free) = false := by simpa using hf
        rw [hq] at x1 ⊢
        clear h h1 d0 d1 hf hq
        go_enter Tryd.func16, Tryd.ntmps16
        go_wp2_with fail
        go_quiet (fail)
        go_wp2_with fail
        go_ret
        exact ⟨rfl, (bAl _ _).trans (drewN_below _ _ _)⟩
      · have hq : decide (k ∉ r.free) = true := by simpa using hf
        rw [hq] at x1 ⊢
        clear h h1 d0 d1 hf hq
        rw [Bool.true_and]
        go_enter Tryd.func16, Tryd.ntmps16
        go_wp2_with fail
        go_quiet (fail)
        go_wp2_with fail
        go_ret
        exact ⟨rfl, (bAl _ _).trans (drewN_below _ _ _)⟩
set_option maxHeartbeats 800000 in
set_option maxRecDepth 100000 in
theorem rtake_full {B : Nat} {W : World} {ub gb ib t : Nat} {fv : Value} {r : RS} (h : Rr B W ub gb ib fv t r) (hf : r.free = []) :
    Calls Tryd.prog 11 #[.pointer (some ⟨ub, 0, none⟩)] W fun e W' => e = .returned (.tuple #[.agg #[.int .i64 0, .int .i64 0], .int .i64 6]) ∧ Below W.heap.size W W' := by
  have c1 := h.c2
  have hrl := World.block_lt_of_cell? W _ c1
  have hrn := World.new_ne W _ c1
  obtain ⟨fa, fc, rfl⟩ := own_slice h.free
  rw [hf] at c1
  have HH := hid (heap_alloc_new W (.cells #[.int .i64 0, .int .i64 0] 24))
  have d0 := cell_blk HH.out (j := 0) rfl
  have d1 := cell_blk HH.out (j := 1) rfl
  have f0 := blk_free HH.out 0
  have f1 := blk_free HH.out 1
  clear h hf
  go_enter Tryd.func11, Tryd.ntmps11
  go_wp2_with fail
  exact bodyPost_ret (v := .tuple #[.agg #[.int .i64 0, .int .i64 0], .int .i64 6]) (by simp [results, Tryd.results11, go_sem]) rfl ⟨rfl, bAl _ _⟩
theorem RS.took_is {r : RS} {f : List Nat} {i : Nat} (h : r.ok) (hf : r.free = f ++ [i]) : (r.took i).isL = r.isL.set i true := by
  obtain ⟨h1, h2⟩ := h
  rw [hf] at h1 h2
  have hi := h2 i (by simp)
  have hn : i ∉ f := fun hm => (List.nodup_append.1 h1).2.2 i hm i (by simp) rfl
  apply List.ext_getElem?
  intro j
  rw [List.getElem?_set]
  have hl : (r.took i).gens.length = r.gens.length := RS.took_len r i
  by_cases hj : j < r.gens.length
  · rw [RS.isL_at (r := r.took i) (by omega)]
    by_cases e : i = j
    · subst e
      simp [RS.isL_len, hj, RS.took, hf, hn]
    · rw [if_neg e, RS.isL_at hj]
      simp only [RS.took, hf, List.dropLast_concat, List.mem_append, List.mem_singleton]
      have : j ≠ i := fun q => e q.symm
      simp [this]
  · have e1 : (r.took i).isL[j]? = none := List.getElem?_eq_none (by rw [RS.isL_len]; omega)
    have e2 : r.isL[j]? = none := List.getElem?_eq_none (by rw [RS.isL_len]; omega)
    rw [e1, e2]
    split
    · rename_i e; rw [if_neg (by rw [RS.isL_len]; omega)]
    · rfl
theorem bools_set (l : List Bool) (i : Nat) (b : Bool) : (l.map Value.bool).toArray.setIfInBounds i (.bool b) = ((l.set i b).map Value.bool).toArray := by
  rw [List.map_set]
  simp
/-- What the document's Take leaves. -/
theorem Rr.took {B : Nat} {W : World} {ub gb ib t fb fc : Nat} {f : List Nat} {i : Nat} {r : RS} (h : Rr B W ub gb ib (.slice (some ⟨fb, 0, none⟩) r.free.length fc) t r) (hf : r.free = f ++ [i]) :
    Rr B (((W.setCell ⟨ub, 2, none⟩ (.slice (some ⟨fb, 0, none⟩) f.length fc)).setCell ⟨gb, i, none⟩ (.int .i64 ((r.gens.getD i 0 : Nat) + 1 : Int))).setCell ⟨ib, i, none⟩ (.bool true)) ub gb ib (.slice (some ⟨fb, 0, none⟩) f.length fc) (t + 1) (r.took i) ∧
    St (Fu ub gb ib (.slice (some ⟨fb, 0, none⟩) r.free.length fc)) W (((W.setCell ⟨ub, 2, none⟩ (.slice (some ⟨fb, 0, none⟩) f.length fc)).setCell ⟨gb, i, none⟩ (.int .i64 ((r.gens.getD i 0 : Nat) + 1 : Int))).setCell ⟨ib, i, none⟩ (.bool true)) := by
  have hfl : r.free.length = f.length + 1 := by rw [hf]; simp
  have n1 := h.ne_ug
  have n2 := h.ne_ui
  have n3 := h.ne_gi
  obtain ⟨n4, n5, n6⟩ := h.ne_f fb rfl
  have hi : i < r.gens.length := h.ok.2 i (by rw [hf]; simp)
  have hgt : r.gens.getD i 0 ≤ t := by rw [List.getD_eq_getElem?_getD, List.getElem?_eq_getElem hi]; exact h.old _ (List.getElem_mem hi)
  have hg1 : (r.took i).gens = r.gens.set i (r.gens.getD i 0 + 1) := rfl
  have hf1 : (r.took i).free = f := by simp [RS.took, hf]
  have B1 : (W.setCell ⟨ub, 2, none⟩ (.slice (some ⟨fb, 0, none⟩) f.length fc)).heap[ub]? = some (.cells #[.slice (some ⟨gb, 0, none⟩) r.gens.length r.gens.length, .slice (some ⟨ib, 0, none⟩) r.gens.length r.gens.length, .slice (some ⟨fb, 0, none⟩) f.length fc] 58 (0, 0)) := heap_setCell_same W ub 2 _ 58 _ h.box
  have G1 : (W.setCell ⟨ub, 2, none⟩ (.slice (some ⟨fb, 0, none⟩) f.length fc)).heap[gb]? = some (.cells (r.gens.map gI).toArray 3 (0, 0)) := (Below.heap_setCell _ _ _ _ (fun e => n1 e.symm)).trans h.gens
  refine ⟨⟨?_, ?_, ?_, ?_, h.ok.took hf, ?_, ?_, h.low, ?_, fun _ => ⟨fb, rfl⟩⟩, ?_⟩
  · rw [Below.heap_setCell _ _ _ _ n2, Below.heap_setCell _ _ _ _ n1, B1, hg1]; simp
  · rw [Below.heap_setCell _ _ _ _ n3, heap_setCell_same _ gb i _ 3 _ G1, hg1, gens_set]
  · have I1 : ((W.setCell ⟨ub, 2, none⟩ (.slice (some ⟨fb, 0, none⟩) f.length fc)).setCell ⟨gb, i, none⟩ (.int .i64 ((r.gens.getD i 0 : Nat) + 1 : Int))).heap[ib]? = some (.cells (r.isL.map Value.bool).toArray 4 (0, 0)) := by
      rw [Below.heap_setCell _ _ _ _ (fun e => n3 e.symm), Below.heap_setCell _ _ _ _ (fun e => n2 e.symm)]; exact h.isb
    rw [heap_setCell_same _ ib i _ 4 _ I1, bools_set, RS.took_is h.ok hf]
  · rw [hf1]
    have h0 := h.free
    rw [hfl, hf] at h0
    refine own_later (own_shrink h0) fun k cur hk hb => ?_
    obtain rfl : fb = k := by simpa [Value.ownBlock] using hk
    rw [Below.heap_setCell _ _ _ _ n6, Below.heap_setCell _ _ _ _ n5, Below.heap_setCell _ _ _ _ n4, hb]
  · rw [hg1, List.length_set]; exact h.small
  · intro g hg
    rw [hg1] at hg
    rcases List.mem_or_eq_of_mem_set hg with hg | rfl
    · have := h.old g hg; omega
    · omega
  · exact fun e => h.apart (by simpa [Value.ownBlock] using e)
  · have S1 : St (Fu ub gb ib (.slice (some ⟨fb, 0, none⟩) r.free.length fc)) W (W.setCell ⟨ub, 2, none⟩ (.slice (some ⟨fb, 0, none⟩) f.length fc)) := St.setCell _ (.inl rfl)
    refine (S1.trans (St.setCell (S := Fu ub gb ib (.slice (some ⟨fb, 0, none⟩) r.free.length fc)) (p := ⟨gb, i, none⟩) _ (.inr (.inl rfl))) fun _ _ q => q).trans (St.setCell (S := Fu ub gb ib (.slice (some ⟨fb, 0, none⟩) r.free.length fc)) (p := ⟨ib, i, none⟩) _ (.inr (.inr (.inl rfl)))) fun _ _ q => q
set_option maxHeartbeats 1600000 in
set_option maxRecDepth 100000 in
theorem rtake_some {B : Nat} {W : World} {ub gb ib t : Nat} {fv : Value} {f : List Nat} {i : Nat} {r : RS} (h : Rr B W ub gb ib fv t r) (hf : r.free = f ++ [i]) (ht : t ≤ 1000) :
    Calls Tryd.prog 11 #[.pointer (some ⟨ub, 0, none⟩)] W fun e W' => e = .returned (.tuple #[.agg #[.int .i64 i, .int .i64 ((r.gens.getD i 0 : Nat) + 1 : Int)], .int .i64 0]) ∧ ∃ fv', Rr B W' ub gb ib fv' (t + 1) (r.took i) ∧ fv'.ownBlock = fv.ownBlock ∧ St (Fu ub gb ib fv) W W' := by
  have hfl : r.free.length = f.length + 1 := by rw [hf]; simp
  obtain ⟨fa, fc, rfl⟩ := own_slice h.free
  have ho := h.free
  obtain ⟨fb, rfl, hfB, hfW⟩ := own_some ho (by omega)
  have HT := hid (h.took hf)
  have hi : i < r.gens.length := h.ok.2 i (by rw [hf]; simp)
  obtain ⟨m, hm⟩ : ∃ m, m = f.length := ⟨_, rfl⟩
  obtain ⟨g, hg⟩ : ∃ g, g = r.gens.getD i 0 := ⟨_, rfl⟩
  have hgt : g ≤ t := by rw [hg, List.getD_eq_getElem?_getD, List.getElem?_eq_getElem hi]; exact h.old _ (List.getElem_mem hi)
  have c0 := h.c0
  have c1 := h.c1
  have c2 := h.c2
  have cg := h.cg hi
  have ci := h.ci hi
  have cf : W.cell? ⟨fb, m, none⟩ = some (.int .i64 (i : Int)) := by
    rw [ho.cellAt m (by omega), hf, hm]; simp [gI]
  have fr1 := blk_free h.box 2
  have frg := blk_free h.gens i
  have fri := blk_free h.isb i
  have n1 := h.ne_ug
  have n2 := h.ne_ui
  have n3 := h.ne_gi
  obtain ⟨n4, n5, n6⟩ := h.ne_f fb rfl
  have l1 : ub < W.heap.size := (h.lt ub (.inl rfl)).2
  have l2 : gb < W.heap.size := (h.lt gb (.inr (.inl rfl))).2
  have l3 : ib < W.heap.size := (h.lt ib (.inr (.inr (.inl rfl)))).2
  have l4 : fb < W.heap.size := hfW
  have m1 : ¬ (ub = W.heap.size) := by omega
  have m2 : ¬ (gb = W.heap.size) := by omega
  have m3 : ¬ (ib = W.heap.size) := by omega
  have m4 : ¬ (fb = W.heap.size) := by omega
  have n1' : ¬ (gb = ub) := fun e => n1 e.symm
  have n2' : ¬ (ib = ub) := fun e => n2 e.symm
  have n3' : ¬ (ib = gb) := fun e => n3 e.symm
  have n4' : ¬ (ub = fb) := fun e => n4 e.symm
  have n5' : ¬ (gb = fb) := fun e => n5 e.symm
  have n6' : ¬ (ib = fb) := fun e => n6 e.symm
  have hsm := h.small
  have hfw := h.few
  obtain ⟨n, hn⟩ : ∃ n, n = r.gens.length := ⟨_, rfl⟩
  rw [hfl, ← hm] at c2
  rw [← hn] at c0 c1 hi hsm hfw
  rw [← hg] at cg
  have hii : (i : Int) < (n : Int) := by omega
  have hn64 : (n : Int) ≤ 64 := by omega
  have hm64 : (m : Int) ≤ 64 := by omega
  have hmc : (m : Int) + 1 ≤ (fc : Int) := by
    rcases ho.2 with ⟨h1, _⟩ | ⟨_, _, _, h1, _, _, h4, _⟩
    · simp at h1
    · simp at h1; omega
  have hgi : (g : Int) ≤ 1000 := by omega
  have hmz : ((m : Int) + 1 == 0) = false := by rw [beq_eq_false_iff_ne]; omega
  rw [← hm, ← hg] at HT
  generalize decide (i ∉ r.free) = b at *
  have HM := hid hm
  have HG := hid hg
  clear h hf hfl ho hm hg hn hfw
  go_enter Tryd.func11, Tryd.ntmps11
  go_wp2_with fail
  obtain ⟨hR, hS⟩ := HT.out
  exact bodyPost_ret (v := .tuple #[.agg #[.int .i64 i, .int .i64 ((g : Int) + 1)], .int .i64 0]) (by simp [results, Tryd.results11, go_sem]) rfl ⟨by rw [HG.out], _, hR.later (bAl _ _), rfl, hS.trans (St.of_below (S := Fu ub gb ib (.slice (some ⟨fb, 0, none⟩) r.free.length fc)) (bAl _ _)) fun _ _ q => q⟩
end Go.Proofs.YtdpoojopipcffaaDoor
