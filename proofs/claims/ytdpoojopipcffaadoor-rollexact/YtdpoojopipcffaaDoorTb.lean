/- The document's roll: New. -/
import Derived.Test.YtdpoojopipcffaaDoorTa
namespace Go.Proofs.YtdpoojopipcffaaDoor
open Go.RowKit Go.Shelf Go.Maps
theorem wpList_row {ops : Array Oper} {rest : List Oper} {o : Oper} {a : Act} {Q : Exit → Act → World → Prop} (hgd : o.guard = none) (s x : Operand)
    (ho : o.op = .call { callee := .builtin .append, args := #[s, x], argTypes := #[53, 53] }) {B ub : Nat} {wc : World} {fv : Value} {f : List Nat} {k : Nat} (hown : wc.ownsRow B 3 1 fv f.length (f.map gI)) (hl : f.length ≤ 1000) (hB : B ≤ wc.heap.size)
    {cs : Array Value} {bt : TypeId} {ix : Nat} (hbox : wc.heap[ub]? = some (.cells cs bt (0, 0))) (hcs : cs[ix]? = some fv) (hne : fv.ownBlock ≠ some ub)
    (hs : a.eval s = fv) (hx : a.eval x = .slice (some ⟨wc.heap.size, 0, none⟩) 1 1)
    (h : ∀ g' cap w2, Hid (Grew B fv (f ++ [k]) wc (.slice (some ⟨g', 0, none⟩) (f.length + 1) cap) w2) → w2.cell? ⟨ub, ix, none⟩ = some fv → w2.frozen? ⟨ub, ix, none⟩ = false → wpList Tryd.prog ops Q rest (a.put o.dst (.slice (some ⟨g', 0, none⟩) (f.length + 1) cap)) w2) :
    wpList Tryd.prog ops Q (o :: rest) a (wc.alloc (.cells #[.int .i64 (k : Int)] 3)) := by
  obtain ⟨i0, hi, hz0, hz1, hz2⟩ := info_parts infoInt
  have hb : Below wc.heap.size wc (wc.alloc (.cells #[.int .i64 (k : Int)] 3)) := bAl _ _
  have ho2 : (wc.alloc (.cells #[.int .i64 (k : Int)] 3)).ownsRow B 3 1 fv f.length (f.map gI) := hown.alloc _
  have hz : (wc.alloc (.cells #[.int .i64 (k : Int)] 3)).heap.size = wc.heap.size + 1 := by simp
  refine wpList_append_lies _ hgd s x 53 ho B 3 i0 (.int .i64 0) 1 8 Tryd.underlying53 hi hz0 hz1 hz2 rfl (by decide) fv f.length (f.map gI) hs ho2 ⟨wc.heap.size, 0, none⟩ 1 1 [gI k] hx rfl (fun j u hu => by
    rw [add_at]
    match j, hu with
    | 0, hu =>
      simp at hu
      subst hu
      exact new_cell wc _ 3
    | j + 1, hu => simp at hu) (by intro u hu; simp at hu; subst hu; rfl) (by decide) (by unfold maxLen; omega) (by omega) (by omega) (wc.heap.size + 1) hz ?_
  intro g' cap w2 ow hg hat hlt
  have st : St (fun x => fv.ownBlock = some x) wc w2 := (St.of_below hb).trans (St.of_grown (S := fun x => fv.ownBlock = some x) hg fun k e => e) fun _ _ q => q
  have hbx := st.at hbox hne
  refine h g' cap w2 ⟨?_, st, ?_⟩ (cell_blk hbx hcs) (blk_free hbx ix)
  · have e : (f ++ [k]).length = f.length + 1 := by simp
    rw [e, List.map_append]
    exact ow
  · rcases hat with h1 | h1
    · exact .inl (by rw [h1]; rfl)
    · exact .inr ⟨g', rfl, by omega⟩
theorem made_bools (n : Nat) : madeCells (Value.bool false).cells (n * 1) = ((List.replicate n false).map Value.bool).toArray := by
  apply Array.ext_getElem?
  intro j
  by_cases hj : j < n
  · simp [madeCells, Value.cells, hj, Nat.mod_one]
  · simp [madeCells, Value.cells, hj]
theorem run_mkb (W : World) (n : Nat) (hn : n ≤ 64) : (Instr.makeSlice 50 (.int .i64 (n : Int)) (.int .i64 (n : Int))).run Tryd.prog W = .ok (.slice (some ⟨W.heap.size, 0, none⟩) n n) (W.alloc (.cells ((List.replicate n false).map Value.bool).toArray 4)) := by
  obtain ⟨i0, hi, hz0, hz1, hz2⟩ := info_parts infoBool
  have h := run_makeSlice (P := Tryd.prog) W 50 4 i0 (.bool false) Tryd.underlying50 hi hz0 .i64 .i64 (n : Int) (n : Int) (by omega) (by omega) (by rw [hz1]; simp; omega) (by rw [hz2]; omega) (by omega)
  rw [hz1, Int.toNat_natCast, made_bools] at h
  exact h
/-- The document's roll that is being made. -/
structure Mr (B : Nat) (W : World) (ub gb ib n : Nat) (fv : Value) (l : List Nat) (wr : World) : Prop where
  box : wr.heap[ub]? = some (.cells #[.slice (some ⟨gb, 0, none⟩) n n, .slice (some ⟨ib, 0, none⟩) n n, fv] 58 (0, 0))
  gens : wr.heap[gb]? = some (.cells ((List.replicate n 0).map gI).toArray 3 (0, 0))
  isb : wr.heap[ib]? = some (.cells ((List.replicate n false).map Value.bool).toArray 4 (0, 0))
  free : wr.ownsRow B 3 1 fv l.length (l.map gI)
  low : B ≤ ub ∧ B ≤ gb ∧ B ≤ ib
  apart : ∀ x, fv.ownBlock = some x → x ≠ ub ∧ x ≠ gb ∧ x ≠ ib
  two : ub ≠ gb ∧ ub ≠ ib
  nz : 0 < l.length → ∃ g, fv.ownBlock = some g
  bel : Below B W wr
theorem Mr.next {B : Nat} {W wr w2 : World} {ub gb ib n k g' cap m : Nat} {fv : Value} {l : List Nat} (h : Mr B W ub gb ib n fv l wr) (hB : B ≤ wr.heap.size) (g : Grew B fv (l ++ [k]) wr (.slice (some ⟨g', 0, none⟩) m cap) w2) : Mr B W ub gb ib n (.slice (some ⟨g', 0, none⟩) m cap) (l ++ [k]) (w2.setCell ⟨ub, 2, none⟩ (.slice (some ⟨g', 0, none⟩) m cap)) := by
  have lt := fun {k : Nat} {o : Obj} (h : wr.heap[k]? = some o) => (Array.getElem?_eq_some_iff.1 h).1
  have l1 := lt h.box
  have l2 := lt h.gens
  have l3 := lt h.isb
  have hap : ∀ x, (Value.slice (some ⟨g', 0, none⟩) m cap).ownBlock = some x → x ≠ ub ∧ x ≠ gb ∧ x ≠ ib := fun x hx => by
    rcases g.at' with h1 | ⟨y, h1, h2⟩
    · exact h.apart x (h1 ▸ hx)
    · rw [h1] at hx; simp at hx; omega
  refine ⟨?_, ?_, ?_, ?_, h.low, hap, h.two, fun _ => ⟨g', rfl⟩, ?_⟩
  · exact heap_setCell_same _ ub 2 _ 58 _ (g.st.at h.box fun e => (h.apart ub e).1 rfl)
  · exact (Below.heap_setCell _ _ _ _ (fun e => h.two.1 e.symm)).trans (g.st.at h.gens fun e => (h.apart gb e).2.1 rfl)
  · exact (Below.heap_setCell _ _ _ _ (fun e => h.two.2 e.symm)).trans (g.st.at h.isb fun e => (h.apart ib e).2.2 rfl)
  · exact own_later g.own fun x cur hx hb => (Below.heap_setCell _ _ _ _ (hap x hx).1).trans hb
  · have s1 : Below B wr w2 := g.st.below (fun x hx => (h.free.lt x hx).1) hB
    exact (h.bel.trans s1).setCell h.low.1 _
theorem fresh_is (n : Nat) : (RS.fresh n).isL = List.replicate n false := by
  apply List.ext_getElem?
  intro j
  by_cases hj : j < n
  · rw [RS.isL_at (by simpa [RS.fresh] using hj)]
    simp [RS.fresh, hj]
  · rw [List.getElem?_eq_none (by rw [RS.isL_len]; simp [RS.fresh]; omega), List.getElem?_eq_none (by simp; omega)]
theorem Mr.roll {W wr : World} {ub gb ib n : Nat} {fv : Value} (h : Mr W.heap.size W ub gb ib n fv (List.range n).reverse wr) (hn : n ≤ 64) : Rr W.heap.size wr ub gb ib fv 0 (RS.fresh n) := by
  refine ⟨?_, h.gens, ?_, h.free, ⟨?_, ?_⟩, ?_, ?_, h.low, fun e => (h.apart gb e).2.1 rfl, fun h0 => h.nz (by simpa [RS.fresh] using h0)⟩
  · simpa [RS.fresh] using h.box
  · rw [fresh_is]; exact h.isb
  · exact (List.reverse_perm (List.range n)).nodup_iff.2 List.nodup_range
  · intro i hi
    simpa [RS.fresh] using hi
  · simpa [RS.fresh] using hn
  · intro g hg
    simp [RS.fresh] at hg
    omega
set_option maxHeartbeats 400000 in
theorem rnew_low (W : World) (n : Int) (hn : n < 0) : Calls Tryd.prog 8 #[.int .i64 n] W fun e W' => e = .returned (.pointer none) ∧ W' = W := by
  go_enter Tryd.func8, Tryd.ntmps8
  go_wp2
  go_ret
  exact ⟨rfl, rfl⟩
set_option maxHeartbeats 400000 in
theorem rnew_high (W : World) (n : Int) (hn : 64 < n) : Calls Tryd.prog 8 #[.int .i64 n] W fun e W' => e = .returned (.pointer none) ∧ W' = W := by
  have h0 : ¬ (n < 0) := by omega
  go_enter Tryd.func8, Tryd.ntmps8
  go_wp2
  go_ret
  exact ⟨rfl, rfl⟩
set_option maxHeartbeats 1600000 in
set_option maxRecDepth 100000 in
theorem rnew_some (W : World) (n : Nat) (hn : n ≤ 64) :
    Calls Tryd.prog 8 #[.int .i64 (n : Int)] W fun e W' => ∃ ub gb ib fv, e = .returned (.pointer (some ⟨ub, 0, none⟩)) ∧ Rr W.heap.size W' ub gb ib fv 0 (RS.fresh n) ∧ Below W.heap.size W W' := by
  have h0 : ¬ ((n : Int) < 0) := by omega
  have h1 : ¬ (64 < (n : Int)) := by omega
  have h2 : (n : Int) ≤ 64 := by omega
  obtain ⟨k1, e1⟩ : ∃ k1, k1 = ((List.replicate n 0).map gI).toArray := ⟨_, rfl⟩
  obtain ⟨k2, e2⟩ : ∃ k2, k2 = ((List.replicate n false).map Value.bool).toArray := ⟨_, rfl⟩
  have hm1 := fun W => run_mk W n hn
  have hm2 := fun W => run_mkb W n hn
  rw [← e1] at hm1
  rw [← e2] at hm2
  have M0 : Hid (Mr W.heap.size W (W.heap.size + 2) W.heap.size (W.heap.size + 1) n (.slice none 0 0) [] ((((W.alloc (.cells k1 3)).alloc (.cells k2 4)).alloc (.cells #[.slice (some ⟨W.heap.size, 0, none⟩) n n, .slice (some ⟨W.heap.size + 1, 0, none⟩) n n, .slice none 0 0] 58)).drew)) := by
    refine ⟨?_, ?_, ?_, World.ownsRow_nil _ _ _ _, by omega, fun x hx => by simp [Value.ownBlock] at hx, by omega, fun h => by simp at h, ?_⟩
    · have := heap_alloc_new ((W.alloc (.cells k1 3)).alloc (.cells k2 4)) (.cells #[.slice (some ⟨W.heap.size, 0, none⟩) n n, .slice (some ⟨W.heap.size + 1, 0, none⟩) n n, .slice none 0 0] 58)
      rw [World.size_alloc, World.size_alloc] at this
      exact this
    · rw [← e1]
      exact (Below.heap_alloc _ _ _ (by simp; omega)).trans ((Below.heap_alloc _ _ _ (by simp)).trans (heap_alloc_new W _))
    · rw [← e2]
      have := heap_alloc_new (W.alloc (.cells k1 3)) (.cells k2 4)
      rw [World.size_alloc] at this
      exact (Below.heap_alloc _ _ _ (by simp)).trans this
    · exact ((((Below.refl _ _).alloc (Nat.le_refl _) _).alloc (by simp) _).alloc (by simp; omega) _).drew
  have M1 : Hid (Mr W.heap.size W (W.heap.size + 2) (W.heap.size + 1) W.heap.size n (.slice none 0 0) [] ((((W.alloc (.cells k2 4)).alloc (.cells k1 3)).alloc (.cells #[.slice (some ⟨W.heap.size + 1, 0, none⟩) n n, .slice (some ⟨W.heap.size, 0, none⟩) n n, .slice none 0 0] 58)).drew)) := by
    refine ⟨?_, ?_, ?_, World.ownsRow_nil _ _ _ _, by omega, fun x hx => by simp [Value.ownBlock] at hx, by omega, fun h => by simp at h, ?_⟩
    · have := heap_alloc_new ((W.alloc (.cells k2 4)).alloc (.cells k1 3)) (.cells #[.slice (some ⟨W.heap.size + 1, 0, none⟩) n n, .slice (some ⟨W.heap.size, 0, none⟩) n n, .slice none 0 0] 58)
      rw [World.size_alloc, World.size_alloc] at this
      exact this
    · rw [← e1]
      have := heap_alloc_new (W.alloc (.cells k2 4)) (.cells k1 3)
      rw [World.size_alloc] at this
      exact (Below.heap_alloc _ _ _ (by simp)).trans this
    · rw [← e2]
      exact (Below.heap_alloc _ _ _ (by simp; omega)).trans ((Below.heap_alloc _ _ _ (by simp)).trans (heap_alloc_new W _))
    · exact ((((Below.refl _ _).alloc (Nat.le_refl _) _).alloc (by simp) _).alloc (by simp; omega) _).drew
  clear e1 e2
  go_enter Tryd.func8, Tryd.ntmps8
  go_wp2_with fail
  go_region
  · clear hm1 hm2
    go_wp2_with fail
    go_loopw [4] (fun i wr => ∃ (j : Nat) (z : Int), j ≤ n ∧ Hid (z = (j : Int) - 1) ∧ i = .int .i64 z ∧ ∃ fv, Hid (Mr W.heap.size W (W.heap.size + 2) W.heap.size (W.heap.size + 1) n fv ((List.range n).drop j).reverse wr)) (fun i _ => (intOf i + 1).toNat)
    case atStart => exact ⟨n, _, Nat.le_refl _, rfl, rfl, _, by rw [List.drop_of_length_le (by simp)]; exact M0.out⟩
    case round =>
      obtain ⟨j, z, hj, HZ, rfl, fv, HM⟩ := hrel
      clear M0 M1
      by_cases hlt : 0 < j
      · obtain ⟨q, rfl⟩ : ∃ q, j = q + 1 := ⟨j - 1, by omega⟩
        obtain rfl : z = (q : Int) := by have := HZ.out; omega
        clear HZ
        have hqi : (0 : Int) ≤ (q : Int) := by omega
        have hq64 : (q : Int) ≤ 64 := by omega
        have hfl : ((List.range n).drop (q + 1)).reverse.length ≤ 1000 := by simp; omega
        have x1 := cell_blk HM.out.box (j := 2) rfl
        have hrl : W.heap.size + 2 < wr.heap.size := World.block_lt_of_cell? wr _ x1
        have hrn : ¬ (W.heap.size + 2 = wr.heap.size) := by omega
        have RD := hid (range_drop n q (by omega))
        obtain ⟨l, hl⟩ : ∃ l, l = ((List.range n).drop (q + 1)).reverse := ⟨_, rfl⟩
        rw [← hl] at HM hfl RD
        clear hl
        obtain ⟨fa, fc, rfl⟩ := own_slice HM.out.free
        go_wp2_with (at_builtin; refine wpList_row rfl _ _ rfl HM.out.free hfl (by omega) HM.out.box (ix := 2) rfl (fun e => (HM.out.apart _ e).1 rfl) rfl rfl ?_; intro g' cap w2 hgr hx5 hf5)
        exact ⟨⟨q, _, by omega, rfl, rfl, _, by rw [RD.out]; exact HM.out.next (by omega) hgr.out⟩, by simp [intOf]⟩
      · obtain rfl : j = 0 := by omega
        obtain rfl : z = -1 := by have := HZ.out; omega
        clear HZ
        go_wp2_with fail
        go_ret
        have hM := HM.out
        rw [List.drop_zero] at hM
        exact ⟨_, _, _, _, rfl, hM.roll hn, hM.bel⟩
  · clear hm1 hm2
    go_wp2_with fail
    go_loopw [4] (fun i wr => ∃ (j : Nat) (z : Int), j ≤ n ∧ Hid (z = (j : Int) - 1) ∧ i = .int .i64 z ∧ ∃ fv, Hid (Mr W.heap.size W (W.heap.size + 2) (W.heap.size + 1) W.heap.size n fv ((List.range n).drop j).reverse wr)) (fun i _ => (intOf i + 1).toNat)
    case atStart => exact ⟨n, _, Nat.le_refl _, rfl, rfl, _, by rw [List.drop_of_length_le (by simp)]; exact M1.out⟩
    case round =>
      obtain ⟨j, z, hj, HZ, rfl, fv, HM⟩ := hrel
      clear M0 M1
      by_cases hlt : 0 < j
      · obtain ⟨q, rfl⟩ : ∃ q, j = q + 1 := ⟨j - 1, by omega⟩
        obtain rfl : z = (q : Int) := by have := HZ.out; omega
        clear HZ
        have hqi : (0 : Int) ≤ (q : Int) := by omega
        have hq64 : (q : Int) ≤ 64 := by omega
        have hfl : ((List.range n).drop (q + 1)).reverse.length ≤ 1000 := by simp; omega
        have x1 := cell_blk HM.out.box (j := 2) rfl
        have hrl : W.heap.size + 2 < wr.heap.size := World.block_lt_of_cell? wr _ x1
        have hrn : ¬ (W.heap.size + 2 = wr.heap.size) := by omega
        have RD := hid (range_drop n q (by omega))
        obtain ⟨l, hl⟩ : ∃ l, l = ((List.range n).drop (q + 1)).reverse := ⟨_, rfl⟩
        rw [← hl] at HM hfl RD
        clear hl
        obtain ⟨fa, fc, rfl⟩ := own_slice HM.out.free
        go_wp2_with (at_builtin; refine wpList_row rfl _ _ rfl HM.out.free hfl (by omega) HM.out.box (ix := 2) rfl (fun e => (HM.out.apart _ e).1 rfl) rfl rfl ?_; intro g' cap w2 hgr hx5 hf5)
        exact ⟨⟨q, _, by omega, rfl, rfl, _, by rw [RD.out]; exact HM.out.next (by omega) hgr.out⟩, by simp [intOf]⟩
      · obtain rfl : j = 0 := by omega
        obtain rfl : z = -1 := by have := HZ.out; omega
        clear HZ
        go_wp2_with fail
        go_ret
        have hM := HM.out
        rw [List.drop_zero] at hM
        exact ⟨_, _, _, _, rfl, hM.roll hn, hM.bel⟩
end Go.Proofs.YtdpoojopipcffaaDoor
