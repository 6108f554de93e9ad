/- New. -/
import Derived.Test.YtdpoojopipcffaaDoorRd
import Derived.Laws.MakeOwn
namespace Go.Proofs.YtdpoojopipcffaaDoor
open Go.RowKit Go.Shelf Go.Maps
/-- A roll that is new. -/
def RS.fresh (n : Nat) : RS := ⟨List.replicate n 0, (List.range n).reverse⟩
set_option maxHeartbeats 800000 in
set_option maxRecDepth 100000 in
theorem new_low (Ad : Nat → Addr) (W : World) (hE : Env4 W Ad) (n : Int) (hn : n < 0) :
    Calls Tryd.prog 7 #[.int .i64 n] W fun e W' => ∃ v, e = .returned (.tuple #[.pointer none, v]) ∧ ErrAt Ad W' v bMost 1 ∧ Below W.heap.size W W' := by
  have e1 := hE.c1
  have AC := hid (at_err Ad bMost 1 (by decide) W)
  clear hE
  go_enter Tryd.func7, Tryd.ntmps7
  go_wp2_with fail
  refine AC.out.mono ?_
  rintro e w1 ⟨v, rfl, hv, hb⟩
  have HV := hid hv
  have HB := hid hb
  clear hv hb e1 AC
  go_wp2_with fail
  go_ret2
  exact ⟨v, rfl, HV.out, HB.out⟩
set_option maxHeartbeats 800000 in
set_option maxRecDepth 100000 in
theorem new_high (Ad : Nat → Addr) (W : World) (hE : Env4 W Ad) (n : Int) (hn : 64 < n) :
    Calls Tryd.prog 7 #[.int .i64 n] W fun e W' => ∃ v, e = .returned (.tuple #[.pointer none, v]) ∧ ErrAt Ad W' v bMost 1 ∧ Below W.heap.size W W' := by
  have e1 := hE.c1
  have h0 : ¬ (n < 0) := by omega
  have AC := hid (at_err Ad bMost 1 (by decide) W)
  clear hE
  go_enter Tryd.func7, Tryd.ntmps7
  go_wp2_with fail
  refine AC.out.mono ?_
  rintro e w1 ⟨v, rfl, hv, hb⟩
  have HV := hid hv
  have HB := hid hb
  clear hv hb e1 AC
  go_wp2_with fail
  go_ret2
  exact ⟨v, rfl, HV.out, HB.out⟩
theorem made_ints (n : Nat) : madeCells (Value.int .i64 0).cells (n * 1) = ((List.replicate n 0).map gI).toArray := by
  apply Array.ext_getElem?
  intro j
  by_cases hj : j < n
  · simp [madeCells, gI, Value.cells, hj, Nat.mod_one]
  · simp [madeCells, gI, Value.cells, hj]
theorem run_mk (W : World) (n : Nat) (hn : n ≤ 64) : (Instr.makeSlice 53 (.int .i64 (n : Int)) (.int .i64 (n : Int))).run Tryd.prog W = .ok (.slice (some ⟨W.heap.size, 0, none⟩) n n) (W.alloc (.cells ((List.replicate n 0).map gI).toArray 3)) := by
  obtain ⟨i0, hi, hz0, hz1, hz2⟩ := info_parts infoInt
  have h := run_makeSlice (P := Tryd.prog) W 53 3 i0 (.int .i64 0) Tryd.underlying53 hi hz0 .i64 .i64 (n : Int) (n : Int) (by omega) (by omega) (by rw [hz1]; simp; omega) (by rw [hz2]; omega) (by omega)
  rw [hz1, Int.toNat_natCast, made_ints] at h
  exact h
theorem wpList_free {ops : Array Oper} {rest : List Oper} {o : Oper} {a : Act} {Q : Exit → Act → World → Prop} (hgd : o.guard = none) (s x : Operand)
    (ho : o.op = .call { callee := .builtin .append, args := #[s, x], argTypes := #[53, 53] }) {B rb : Nat} {wc : World} {fv : Value} {f : List Nat} {k : Nat} (hown : wc.ownsRow B 3 1 fv f.length (f.map gI)) (hl : f.length ≤ 1000) (hB : B ≤ wc.heap.size)
    {cs : Array Value} (hbox : wc.heap[rb]? = some (.cells cs 56 (0, 0))) (hcs : cs[1]? = some fv) (hne : fv.ownBlock ≠ some rb)
    (hs : a.eval s = fv) (hx : a.eval x = .slice (some ⟨wc.heap.size, 0, none⟩) 1 1)
    (h : ∀ g' cap w2, Hid (Grew B fv (f ++ [k]) wc (.slice (some ⟨g', 0, none⟩) (f.length + 1) cap) w2) → w2.cell? ⟨rb, 1, none⟩ = some fv → w2.frozen? ⟨rb, 1, none⟩ = false → wpList Tryd.prog ops Q rest (a.put o.dst (.slice (some ⟨g', 0, none⟩) (f.length + 1) cap)) w2) :
    wpList Tryd.prog ops Q (o :: rest) a (wc.alloc (.cells #[.int .i64 (k : Int)] 3)) := by
  obtain ⟨i0, hi, hz0, hz1, hz2⟩ := info_parts infoInt
  have hb : Below wc.heap.size wc (wc.alloc (.cells #[.int .i64 (k : Int)] 3)) := (Below.refl _ _).alloc (Nat.le_refl _) _
  have ho2 : (wc.alloc (.cells #[.int .i64 (k : Int)] 3)).ownsRow B 3 1 fv f.length (f.map gI) := hown.alloc _
  have hz : (wc.alloc (.cells #[.int .i64 (k : Int)] 3)).heap.size = wc.heap.size + 1 := by simp
  refine wpList_append_lies _ hgd s x 53 ho B 3 i0 (.int .i64 0) 1 8 Tryd.underlying53 hi hz0 hz1 hz2 rfl (by decide) fv f.length (f.map gI) hs ho2 ⟨wc.heap.size, 0, none⟩ 1 1 [gI k] hx rfl (fun j u hu => by
    rw [add_at]
    match j, hu with
    | 0, hu =>
      simp at hu
      subst hu
      exact new_cell wc _ 3
    | j + 1, hu => simp at hu) (by intro u hu; simp at hu; subst hu; rfl) (by decide) (by unfold maxLen; omega) (by omega) (by omega) (wc.heap.size + 1) hz ?_
  intro g' cap w2 ow hg hat hlt
  have st : St (fun x => fv.ownBlock = some x) wc w2 := (St.of_below hb).trans (St.of_grown (S := fun x => fv.ownBlock = some x) hg fun k e => e) fun _ _ q => q
  have hbx : w2.heap[rb]? = some (.cells cs 56 (0, 0)) := (st.block rb (Array.getElem?_eq_some_iff.1 hbox).1 hne).trans hbox
  refine h g' cap w2 ⟨?_, st, ?_⟩ (cell_blk hbx hcs) (blk_free hbx 1)
  · have e : (f ++ [k]).length = f.length + 1 := by simp
    rw [e, List.map_append]
    exact ow
  · rcases hat with h1 | h1
    · exact .inl (by rw [h1]; rfl)
    · exact .inr ⟨g', rfl, by omega⟩
/-- A roll that is being made: of its places those of the row l are free. -/
structure Mk (B : Nat) (W : World) (rb gb mb n : Nat) (fv : Value) (l : List Nat) (wr : World) : Prop where
  box : wr.heap[rb]? = some (.cells #[.slice (some ⟨gb, 0, none⟩) n n, fv, .map (some mb)] 56 (0, 0))
  gens : wr.heap[gb]? = some (.cells ((List.replicate n 0).map gI).toArray 3 (0, 0))
  free : wr.ownsRow B 3 1 fv l.length (l.map gI)
  map : wr.ownsMap Tryd.prog 24 (unitElem (H := Unit)) mb 0 (.map [])
  low : B ≤ rb ∧ B ≤ gb ∧ B ≤ mb
  apart : ∀ x, fv.ownBlock = some x → x ≠ rb ∧ x ≠ gb ∧ x ≠ mb
  three : rb ≠ gb ∧ rb ≠ mb
  bel : Below B W wr
theorem Mk.next {B : Nat} {W wr w2 : World} {rb gb mb n k : Nat} {fv fv' : Value} {l : List Nat} (h : Mk B W rb gb mb n fv l wr) (hB : B ≤ wr.heap.size) (g : Grew B fv (l ++ [k]) wr fv' w2) : Mk B W rb gb mb n fv' (l ++ [k]) (w2.setCell ⟨rb, 1, none⟩ fv') := by
  have lt := fun {k : Nat} {o : Obj} (h : wr.heap[k]? = some o) => (Array.getElem?_eq_some_iff.1 h).1
  have l1 := lt h.box
  have l2 := lt h.gens
  have l3 := h.map.lt
  have hap : ∀ x, fv'.ownBlock = some x → x ≠ rb ∧ x ≠ gb ∧ x ≠ mb := fun x hx => by
    rcases g.at' with h1 | ⟨y, h1, h2⟩
    · exact h.apart x (h1 ▸ hx)
    · rw [h1] at hx; simp at hx; omega
  refine ⟨?_, ?_, ?_, ?_, h.low, hap, h.three, ?_⟩
  · exact heap_setCell_same _ rb 1 _ 56 _ ((g.st.block rb l1 fun e => (h.apart rb e).1 rfl).trans h.box)
  · exact (Below.heap_setCell _ _ _ _ (fun e => h.three.1 e.symm)).trans ((g.st.block gb l2 fun e => (h.apart gb e).2.1 rfl).trans h.gens)
  · exact own_later g.own fun x cur hx hb => (Below.heap_setCell _ _ _ _ (hap x hx).1).trans hb
  · obtain ⟨es, cl, hb, q⟩ := h.map
    refine World.ownsMap.setCell (a := ⟨rb, 1, none⟩) ⟨es, cl, (g.st.block mb l3 fun e => (h.apart mb e).2.2 rfl).trans hb, q⟩ (fun e => h.three.2 e.symm) _
  · have s1 : Below B wr w2 := g.st.below (fun x hx => (h.free.lt x hx).1) hB
    exact (h.bel.trans s1).setCell h.low.1 _
theorem range_drop (n q : Nat) (h : q < n) : ((List.range n).drop q).reverse = ((List.range n).drop (q + 1)).reverse ++ [q] := by
  rw [List.drop_eq_getElem_cons (by simpa using h), List.reverse_cons]
  simp
theorem Mk.roll {W wr : World} {rb gb mb n : Nat} {fv : Value} (h : Mk W.heap.size W rb gb mb n fv (List.range n).reverse wr) (hn : n ≤ 64) : Rl W.heap.size wr rb gb mb fv 0 (RS.fresh n) := by
  refine ⟨?_, h.gens, h.free, ⟨_, h.map, ?_, ?_⟩, ⟨?_, ?_⟩, ?_, ?_, h.low, fun e => (h.apart gb e).2.1 rfl⟩
  · simpa [RS.fresh] using h.box
  · intro i g _ _
    have : (RS.fresh n).aliveB i g = false := by
      rw [Bool.eq_false_iff]
      intro ha
      obtain ⟨_, _, c, d⟩ := (RS.aliveB_iff _ _ _).1 ha
      have := (List.getElem?_eq_some_iff.1 d).1
      exact c (by simpa [RS.fresh] using this)
    rw [this]
    rfl
  · simp [RS.fresh, Maps.size]
  · exact (List.reverse_perm (List.range n)).nodup_iff.2 List.nodup_range
  · intro i hi
    simpa [RS.fresh] using hi
  · simpa [RS.fresh] using hn
  · intro g hg
    simp [RS.fresh] at hg
    omega
set_option maxHeartbeats 1600000 in
set_option maxRecDepth 100000 in
theorem new_some (W : World) (n : Nat) (hn : n ≤ 64) :
    Calls Tryd.prog 7 #[.int .i64 (n : Int)] W fun e W' => ∃ rb gb mb fv, e = .returned (.tuple #[.pointer (some ⟨rb, 0, none⟩), .nilIface]) ∧ Rl W.heap.size W' rb gb mb fv 0 (RS.fresh n) ∧ Below W.heap.size W W' := by
  have h0 : ¬ ((n : Int) < 0) := by omega
  have h1 : ¬ (64 < (n : Int)) := by omega
  have h2 : (n : Int) ≤ 64 := by omega
  have hmk := run_mk W n hn
  have hmm := run_makeMap (P := Tryd.prog) 54
  have M0 : Hid (Mk W.heap.size W (W.heap.size + 2) W.heap.size (W.heap.size + 1) n (.slice none 0 0) [] (((W.alloc (.cells ((List.replicate n 0).map gI).toArray 3)).alloc (.map #[] 0)).alloc (.cells #[.slice (some ⟨W.heap.size, 0, none⟩) n n, .slice none 0 0, .map (some (W.heap.size + 1))] 56))) := by
    generalize hcs : ((List.replicate n 0).map gI).toArray = cs at *
    refine ⟨?_, ?_, World.ownsRow_nil _ _ _ _, ?_, by omega, fun x hx => by simp [Value.ownBlock] at hx, by omega, ?_⟩
    · have := heap_alloc_new ((W.alloc (.cells cs 3)).alloc (.map #[] 0)) (.cells #[.slice (some ⟨W.heap.size, 0, none⟩) n n, .slice none 0 0, .map (some (W.heap.size + 1))] 56)
      simpa using this
    · rw [Below.heap_alloc _ _ _ (by simp; omega), Below.heap_alloc _ _ _ (by simp), hcs]
      exact heap_alloc_new W _
    · have := World.ownsMap_made (W.alloc (.cells cs 3)) Tryd.prog 24 (unitElem (H := Unit))
      rw [World.size_alloc] at this
      exact this.alloc _
    · exact (((Below.refl _ _).alloc (Nat.le_refl _) _).alloc (by simp) _).alloc (by simp; omega) _
  generalize ((List.replicate n 0).map gI).toArray = cs at *
  go_enter Tryd.func7, Tryd.ntmps7
  go_wp2_with fail
  go_loopw [5] (fun i wr => ∃ (j : Nat) (z : Int), j ≤ n ∧ Hid (z = (j : Int) - 1) ∧ i = .int .i64 z ∧ ∃ fv, Hid (Mk W.heap.size W (W.heap.size + 2) W.heap.size (W.heap.size + 1) n fv ((List.range n).drop j).reverse wr)) (fun i _ => (intOf i + 1).toNat)
  case atStart => exact ⟨n, _, Nat.le_refl _, rfl, rfl, _, by rw [List.drop_of_length_le (by simp)]; exact M0.out⟩
  case round =>
    obtain ⟨j, z, hj, HZ, rfl, fv, HM⟩ := hrel
    clear hmk hmm M0
    by_cases hlt : 0 < j
    · obtain ⟨q, rfl⟩ : ∃ q, j = q + 1 := ⟨j - 1, by omega⟩
      obtain rfl : z = (q : Int) := by have := HZ.out; omega
      clear HZ
      have hqi : (0 : Int) ≤ (q : Int) := by omega
      have hq64 : (q : Int) ≤ 64 := by omega
      have hfl : ((List.range n).drop (q + 1)).reverse.length ≤ 1000 := by simp; omega
      have x1 := cell_blk HM.out.box (j := 1) rfl
      have hrl : W.heap.size + 2 < wr.heap.size := World.block_lt_of_cell? wr _ x1
      have hrn : ¬ (W.heap.size + 2 = wr.heap.size) := by omega
      have RD := hid (range_drop n q (by omega))
      obtain ⟨l, hl⟩ : ∃ l, l = ((List.range n).drop (q + 1)).reverse := ⟨_, rfl⟩
      rw [← hl] at HM hfl RD
      clear hl
      obtain ⟨fa, fc, rfl⟩ := own_slice HM.out.free
      go_wp2_with (at_builtin; refine wpList_free rfl _ _ rfl HM.out.free hfl (by omega) HM.out.box rfl (fun e => (HM.out.apart _ e).1 rfl) rfl rfl ?_; intro g' cap w2 hgr hx5 hf5)
      exact ⟨⟨q, _, by omega, rfl, rfl, _, by rw [RD.out]; exact HM.out.next (by omega) hgr.out⟩, by simp [intOf]⟩
    · obtain rfl : j = 0 := by omega
      obtain rfl : z = -1 := by have := HZ.out; omega
      clear HZ
      go_wp2_with fail
      go_ret2
      have hM := HM.out
      rw [List.drop_zero] at hM
      exact ⟨_, _, _, _, rfl, hM.roll hn, hM.bel⟩
end Go.Proofs.YtdpoojopipcffaaDoor
