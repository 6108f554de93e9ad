/- Texts in one. -/
import Derived.Laws.MakeOwn
import Derived.ProofKit
import Derived.OpenShut
import Derived.Deep.Grids
import Derived.BigQuiet
import Derived.Laws.StructEq
import Derived.Maps.OwnSet
import Derived.DeepKeys4
import Derived.Deep.RegionHeld3
import Derived.Deep.RegionLaw
import Derived.Deep.RegionHeldLaw
import Derived.Deep.AppendLies
import Derived.Deep.QuietTactic
import Derived.Maps.RangeWalk
import Derived.Deep.Cut
import Derived.Deep.LoopGhost
import Derived.Deep.RegionWith
import Derived.Laws.CopyRow
import Derived.Test.YthadfdbkkmmgoaaGreatDoorMab
namespace Go.Proofs.YthadfdbkkmmgoaaGreatDoor.Ro
open Go.RowKit Go.Shelf Go.Maps
/-- A roll that is new. -/
def RS.fresh (n : Nat) : RS := ⟨List.replicate n 0, (List.range n).reverse⟩
set_option maxHeartbeats 800000 in
set_option maxRecDepth 100000 in
theorem new_low (Ad : Nat → Addr) (W : World) (hE : Env4 W Ad) (n : Int) (hn : n < 0) :
    Calls Tryz.prog 87 #[.int .i64 n] W fun e W' => ∃ v, e = .returned (.tuple #[.pointer none, v]) ∧ ErrAt Ad W' v bMost 1 ∧ Below W.heap.size W W' := by
  have e1 := hE.c1
  have AC := hid (at_err Ad bMost 1 (by decide) W)
  clear hE
  go_enter Tryz.func87, Tryz.ntmps87
  go_wp2_with fail
  refine AC.out.mono ?_
  rintro e w1 ⟨v, rfl, hv, hb⟩
  have HV := hid hv
  have HB := hid hb
  clear hv hb e1 AC
  go_wp2_with fail
  go_ret2
  exact ⟨v, rfl, HV.out, HB.out⟩
set_option maxHeartbeats 800000 in
set_option maxRecDepth 100000 in
theorem new_high (Ad : Nat → Addr) (W : World) (hE : Env4 W Ad) (n : Int) (hn : 64 < n) :
    Calls Tryz.prog 87 #[.int .i64 n] W fun e W' => ∃ v, e = .returned (.tuple #[.pointer none, v]) ∧ ErrAt Ad W' v bMost 1 ∧ Below W.heap.size W W' := by
  have e1 := hE.c1
  have h0 : ¬ (n < 0) := by omega
  have AC := hid (at_err Ad bMost 1 (by decide) W)
  clear hE
  go_enter Tryz.func87, Tryz.ntmps87
  go_wp2_with fail
  refine AC.out.mono ?_
  rintro e w1 ⟨v, rfl, hv, hb⟩
  have HV := hid hv
  have HB := hid hb
  clear hv hb e1 AC
  go_wp2_with fail
  go_ret2
  exact ⟨v, rfl, HV.out, HB.out⟩
theorem made_ints (n : Nat) : madeCells (Value.int .i64 0).cells (n * 1) = ((List.replicate n 0).map gI).toArray := by
  apply Array.ext_getElem?
  intro j
  by_cases hj : j < n
  · simp [madeCells, gI, Value.cells, hj, Nat.mod_one]
  · simp [madeCells, gI, Value.cells, hj]
theorem run_mk (W : World) (n : Nat) (hn : n ≤ 64) : (Instr.makeSlice 68 (.int .i64 (n : Int)) (.int .i64 (n : Int))).run Tryz.prog W = .ok (.slice (some ⟨W.heap.size, 0, none⟩) n n) (W.alloc (.cells ((List.replicate n 0).map gI).toArray 3)) := by
  obtain ⟨i0, hi, hz0, hz1, hz2⟩ := info_parts infoInt
  have h := run_makeSlice (P := Tryz.prog) W 68 3 i0 (.int .i64 0) Tryz.underlying68 hi hz0 .i64 .i64 (n : Int) (n : Int) (by omega) (by omega) (by rw [hz1]; simp; omega) (by rw [hz2]; omega) (by omega)
  rw [hz1, Int.toNat_natCast, made_ints] at h
  exact h
theorem wpList_free {ops : Array Oper} {rest : List Oper} {o : Oper} {a : Act} {Q : Exit → Act → World → Prop} (hgd : o.guard = none) (s x : Operand)
    (ho : o.op = .call { callee := .builtin .append, args := #[s, x], argTypes := #[68, 68] }) {B rb : Nat} {wc : World} {fv : Value} {f : List Nat} {k : Nat} (hown : wc.ownsRow B 3 1 fv f.length (f.map gI)) (hl : f.length ≤ 1000) (hB : B ≤ wc.heap.size)
    {cs : Array Value} (hbox : wc.heap[rb]? = some (.cells cs 241 (0, 0))) (hcs : cs[1]? = some fv) (hne : fv.ownBlock ≠ some rb)
    (hs : a.eval s = fv) (hx : a.eval x = .slice (some ⟨wc.heap.size, 0, none⟩) 1 1)
    (h : ∀ g' cap w2, Hid (Grew B fv (f ++ [k]) wc (.slice (some ⟨g', 0, none⟩) (f.length + 1) cap) w2) → w2.cell? ⟨rb, 1, none⟩ = some fv → w2.frozen? ⟨rb, 1, none⟩ = false → wpList Tryz.prog ops Q rest (a.put o.dst (.slice (some ⟨g', 0, none⟩) (f.length + 1) cap)) w2) :
    wpList Tryz.prog ops Q (o :: rest) a (wc.alloc (.cells #[.int .i64 (k : Int)] 3)) := by
  obtain ⟨i0, hi, hz0, hz1, hz2⟩ := info_parts infoInt
  have hb : Below wc.heap.size wc (wc.alloc (.cells #[.int .i64 (k : Int)] 3)) := (Below.refl _ _).alloc (Nat.le_refl _) _
  have ho2 : (wc.alloc (.cells #[.int .i64 (k : Int)] 3)).ownsRow B 3 1 fv f.length (f.map gI) := hown.alloc _
  have hz : (wc.alloc (.cells #[.int .i64 (k : Int)] 3)).heap.size = wc.heap.size + 1 := by simp
  refine wpList_append_lies _ hgd s x 68 ho B 3 i0 (.int .i64 0) 1 8 Tryz.underlying68 hi hz0 hz1 hz2 rfl (by decide) fv f.length (f.map gI) hs ho2 ⟨wc.heap.size, 0, none⟩ 1 1 [gI k] hx rfl (fun j u hu => by
    rw [add_at]
    match j, hu with
    | 0, hu =>
      simp at hu
      subst hu
      exact new_cell wc _ 3
    | j + 1, hu => simp at hu) (by intro u hu; simp at hu; subst hu; rfl) (by decide) (by unfold maxLen; omega) (by omega) (by omega) (wc.heap.size + 1) hz ?_
  intro g' cap w2 ow hg hat hlt
  have st : St (fun x => fv.ownBlock = some x) wc w2 := (St.of_below hb).trans (St.of_grown (S := fun x => fv.ownBlock = some x) hg fun k e => e) fun _ _ q => q
  have hbx : w2.heap[rb]? = some (.cells cs 241 (0, 0)) := (st.block rb (Array.getElem?_eq_some_iff.1 hbox).1 hne).trans hbox
  refine h g' cap w2 ⟨?_, st, ?_⟩ (cell_blk hbx hcs) (blk_free hbx 1)
  · have e : (f ++ [k]).length = f.length + 1 := by simp
    rw [e, List.map_append]
    exact ow
  · rcases hat with h1 | h1
    · exact .inl (by rw [h1]; rfl)
    · exact .inr ⟨g', rfl, by omega⟩
/-- A roll that is being made: of its places those of the row l are free. -/
structure Mk (B : Nat) (W : World) (rb gb mb n : Nat) (fv : Value) (l : List Nat) (wr : World) : Prop where
  box : wr.heap[rb]? = some (.cells #[.slice (some ⟨gb, 0, none⟩) n n, fv, .map (some mb)] 241 (0, 0))
  gens : wr.heap[gb]? = some (.cells ((List.replicate n 0).map gI).toArray 3 (0, 0))
  free : wr.ownsRow B 3 1 fv l.length (l.map gI)
  map : wr.ownsMap Tryz.prog 144 (unitElem (H := Unit)) mb 0 (.map [])
  low : B ≤ rb ∧ B ≤ gb ∧ B ≤ mb
  apart : ∀ x, fv.ownBlock = some x → x ≠ rb ∧ x ≠ gb ∧ x ≠ mb
  three : rb ≠ gb ∧ rb ≠ mb
  bel : Below B W wr
theorem Mk.next {B : Nat} {W wr w2 : World} {rb gb mb n k : Nat} {fv fv' : Value} {l : List Nat} (h : Mk B W rb gb mb n fv l wr) (hB : B ≤ wr.heap.size) (g : Grew B fv (l ++ [k]) wr fv' w2) : Mk B W rb gb mb n fv' (l ++ [k]) (w2.setCell ⟨rb, 1, none⟩ fv') := by
  have lt := fun {k : Nat} {o : Obj} (h : wr.heap[k]? = some o) => (Array.getElem?_eq_some_iff.1 h).1
  have l1 := lt h.box
  have l2 := lt h.gens
  have l3 := h.map.lt
  have hap : ∀ x, fv'.ownBlock = some x → x ≠ rb ∧ x ≠ gb ∧ x ≠ mb := fun x hx => by
    rcases g.at' with h1 | ⟨y, h1, h2⟩
    · exact h.apart x (h1 ▸ hx)
    · rw [h1] at hx; simp at hx; omega
  refine ⟨?_, ?_, ?_, ?_, h.low, hap, h.three, ?_⟩
  · exact heap_setCell_same _ rb 1 _ 241 _ ((g.st.block rb l1 fun e => (h.apart rb e).1 rfl).trans h.box)
  · exact (Below.heap_setCell _ _ _ _ (fun e => h.three.1 e.symm)).trans ((g.st.block gb l2 fun e => (h.apart gb e).2.1 rfl).trans h.gens)
  · exact own_later g.own fun x cur hx hb => (Below.heap_setCell _ _ _ _ (hap x hx).1).trans hb
  · obtain ⟨es, cl, hb, q⟩ := h.map
    refine World.ownsMap.setCell (a := ⟨rb, 1, none⟩) ⟨es, cl, (g.st.block mb l3 fun e => (h.apart mb e).2.2 rfl).trans hb, q⟩ (fun e => h.three.2 e.symm) _
  · have s1 : Below B wr w2 := g.st.below (fun x hx => (h.free.lt x hx).1) hB
    exact (h.bel.trans s1).setCell h.low.1 _
theorem range_drop (n q : Nat) (h : q < n) : ((List.range n).drop q).reverse = ((List.range n).drop (q + 1)).reverse ++ [q] := by
  rw [List.drop_eq_getElem_cons (by simpa using h), List.reverse_cons]
  simp
theorem Mk.roll {W wr : World} {rb gb mb n : Nat} {fv : Value} (h : Mk W.heap.size W rb gb mb n fv (List.range n).reverse wr) (hn : n ≤ 64) : Rl W.heap.size wr rb gb mb fv 0 (RS.fresh n) := by
  refine ⟨?_, h.gens, h.free, ⟨_, h.map, ?_, ?_⟩, ⟨?_, ?_⟩, ?_, ?_, h.low, fun e => (h.apart gb e).2.1 rfl⟩
  · simpa [RS.fresh] using h.box
  · intro i g _ _
    have : (RS.fresh n).aliveB i g = false := by
      rw [Bool.eq_false_iff]
      intro ha
      obtain ⟨_, _, c, d⟩ := (RS.aliveB_iff _ _ _).1 ha
      have := (List.getElem?_eq_some_iff.1 d).1
      exact c (by simpa [RS.fresh] using this)
    rw [this]
    rfl
  · simp [RS.fresh, Maps.size]
  · exact (List.reverse_perm (List.range n)).nodup_iff.2 List.nodup_range
  · intro i hi
    simpa [RS.fresh] using hi
  · simpa [RS.fresh] using hn
  · intro g hg
    simp [RS.fresh] at hg
    omega
set_option maxHeartbeats 1600000 in
set_option maxRecDepth 100000 in
theorem new_some (W : World) (n : Nat) (hn : n ≤ 64) :
    Calls Tryz.prog 87 #[.int .i64 (n : Int)] W fun e W' => ∃ rb gb mb fv, e = .returned (.tuple #[.pointer (some ⟨rb, 0, none⟩), .nilIface]) ∧ Rl W.heap.size W' rb gb mb fv 0 (RS.fresh n) ∧ Below W.heap.size W W' := by
  have h0 : ¬ ((n : Int) < 0) := by omega
  have h1 : ¬ (64 < (n : Int)) := by omega
  have h2 : (n : Int) ≤ 64 := by omega
  have hmk := run_mk W n hn
  have hmm := run_makeMap (P := Tryz.prog) 239
  have M0 : Hid (Mk W.heap.size W (W.heap.size + 2) W.heap.size (W.heap.size + 1) n (.slice none 0 0) [] (((W.alloc (.cells ((List.replicate n 0).map gI).toArray 3)).alloc (.map #[] 0)).alloc (.cells #[.slice (some ⟨W.heap.size, 0, none⟩) n n, .slice none 0 0, .map (some (W.heap.size + 1))] 241))) := by
    generalize hcs : ((List.replicate n 0).map gI).toArray = cs at *
    refine ⟨?_, ?_, World.ownsRow_nil _ _ _ _, ?_, by omega, fun x hx => by simp [Value.ownBlock] at hx, by omega, ?_⟩
    · have := heap_alloc_new ((W.alloc (.cells cs 3)).alloc (.map #[] 0)) (.cells #[.slice (some ⟨W.heap.size, 0, none⟩) n n, .slice none 0 0, .map (some (W.heap.size + 1))] 241)
      simpa using this
    · rw [Below.heap_alloc _ _ _ (by simp; omega), Below.heap_alloc _ _ _ (by simp), hcs]
      exact heap_alloc_new W _
    · have := World.ownsMap_made (W.alloc (.cells cs 3)) Tryz.prog 144 (unitElem (H := Unit))
      rw [World.size_alloc] at this
      exact this.alloc _
    · exact (((Below.refl _ _).alloc (Nat.le_refl _) _).alloc (by simp) _).alloc (by simp; omega) _
  generalize ((List.replicate n 0).map gI).toArray = cs at *
  go_enter Tryz.func87, Tryz.ntmps87
  go_wp2_with fail
  go_loopw [5] (fun i wr => ∃ (j : Nat) (z : Int), j ≤ n ∧ Hid (z = (j : Int) - 1) ∧ i = .int .i64 z ∧ ∃ fv, Hid (Mk W.heap.size W (W.heap.size + 2) W.heap.size (W.heap.size + 1) n fv ((List.range n).drop j).reverse wr)) (fun i _ => (intOf i + 1).toNat)
  case atStart => exact ⟨n, _, Nat.le_refl _, rfl, rfl, _, by rw [List.drop_of_length_le (by simp)]; exact M0.out⟩
  case round =>
    obtain ⟨j, z, hj, HZ, rfl, fv, HM⟩ := hrel
    clear hmk hmm M0
    by_cases hlt : 0 < j
    · obtain ⟨q, rfl⟩ : ∃ q, j = q + 1 := ⟨j - 1, by omega⟩
      obtain rfl : z = (q : Int) := by have := HZ.out; omega
      clear HZ
      have hqi : (0 : Int) ≤ (q : Int) := by omega
      have hq64 : (q : Int) ≤ 64 := by omega
      have hfl : ((List.range n).drop (q + 1)).reverse.length ≤ 1000 := by simp; omega
      have x1 := cell_blk HM.out.box (j := 1) rfl
      have hrl : W.heap.size + 2 < wr.heap.size := World.block_lt_of_cell? wr _ x1
      have hrn : ¬ (W.heap.size + 2 = wr.heap.size) := by omega
      have RD := hid (range_drop n q (by omega))
      obtain ⟨l, hl⟩ : ∃ l, l = ((List.range n).drop (q + 1)).reverse := ⟨_, rfl⟩
      rw [← hl] at HM hfl RD
      clear hl
      obtain ⟨fa, fc, rfl⟩ := own_slice HM.out.free
      go_wp2_with (at_builtin; refine wpList_free rfl _ _ rfl HM.out.free hfl (by omega) HM.out.box rfl (fun e => (HM.out.apart _ e).1 rfl) rfl rfl ?_; intro g' cap w2 hgr hx5 hf5)
      exact ⟨⟨q, _, by omega, rfl, rfl, _, by rw [RD.out]; exact HM.out.next (by omega) hgr.out⟩, by simp [intOf]⟩
    · obtain rfl : j = 0 := by omega
      obtain rfl : z = -1 := by have := HZ.out; omega
      clear HZ
      go_wp2_with fail
      go_ret2
      have hM := HM.out
      rw [List.drop_zero] at hM
      exact ⟨_, _, _, _, rfl, hM.roll hn, hM.bel⟩
end Go.Proofs.YthadfdbkkmmgoaaGreatDoor.Ro
namespace Go.Proofs.YthadfdbkkmmgoaaGreatDoor.Ro
open Go.RowKit Go.Shelf Go.Maps
/-- Those that are given among the first k places. -/
def RS.upto (r : RS) : Nat → List (Nat × Nat)
  | 0 => []
  | k + 1 => if k ∈ r.free then r.upto k else r.upto k ++ [(k, r.gens.getD k 0)]
def RS.all (r : RS) : List (Nat × Nat) := r.upto r.gens.length
def entCells (l : List (Nat × Nat)) : List Value := l.flatMap fun p => [gI p.1, gI p.2]
theorem entCells_len (l : List (Nat × Nat)) : (entCells l).length = l.length * 2 := by
  induction l with
  | nil => rfl
  | cons x l ih => simp only [entCells, List.flatMap_cons, List.length_append, List.length_cons, List.length_nil] at ih ⊢; omega
theorem entCells_snoc (l : List (Nat × Nat)) (p : Nat × Nat) : entCells (l ++ [p]) = entCells l ++ [gI p.1, gI p.2] := by simp [entCells]
theorem infoEnt : (Tryz.prog.info? 144).map (fun i => (i.zero, i.size, i.bytes)) = some (some (.agg #[.int .i64 0, .int .i64 0]), 2, 16) := by kernel_rfl
/-- A row of entities. -/
def Ents (B : Nat) (W : World) (v : Value) (l : List (Nat × Nat)) : Prop := W.ownsRow B 144 2 v l.length (entCells l)
theorem Ents.later {B : Nat} {W W' : World} {v : Value} {l : List (Nat × Nat)} (h : Ents B W v l) (hb : Below W.heap.size W W') : Ents B W' v l := World.ownsRow.kept h (row := none) ⟨hb.os, hb.tape, hb.output, hb.size, fun k hk _ => hb.block k hk⟩ (by cases hv : v.ownBlock <;> simp)
theorem Ents.slice {B : Nat} {W : World} {v : Value} {l : List (Nat × Nat)} (h : Ents B W v l) : ∃ a c, v = .slice a l.length c := by
  rcases h.2 with ⟨h1, h2⟩ | ⟨g, cap, cur, h1, _⟩
  · exact ⟨none, 0, by rw [h2]; exact h1⟩
  · exact ⟨_, _, h1⟩
/-- append of one entity. -/
theorem wpList_ent {ops : Array Oper} {rest : List Oper} {o : Oper} {a : Act} {Q : Exit → Act → World → Prop} (hgd : o.guard = none) (s x : Operand)
    (ho : o.op = .call { callee := .builtin .append, args := #[s, x], argTypes := #[268, 268] }) {B : Nat} {wc : World} {v : Value} {l : List (Nat × Nat)} {k g : Nat} (hown : Ents B wc v l) (hl : l.length ≤ 1000) (hB : B ≤ wc.heap.size)
    (hs : a.eval s = v) (hx : a.eval x = .slice (some ⟨wc.heap.size, 0, none⟩) 1 1)
    (h : ∀ v' w2, Hid (Ents B w2 v' (l ++ [(k, g)])) → Hid (St (fun x => v.ownBlock = some x) wc w2) → Hid (v'.ownBlock = v.ownBlock ∨ ∃ x, v'.ownBlock = some x ∧ wc.heap.size ≤ x) → wpList Tryz.prog ops Q rest (a.put o.dst v') w2) :
    wpList Tryz.prog ops Q (o :: rest) a (wc.alloc (.cells #[.int .i64 (k : Int), .int .i64 (g : Int)] 144)) := by
  obtain ⟨i0, hi, hz0, hz1, hz2⟩ := info_parts infoEnt
  have hb : Below wc.heap.size wc (wc.alloc (.cells #[.int .i64 (k : Int), .int .i64 (g : Int)] 144)) := (Below.refl _ _).alloc (Nat.le_refl _) _
  have ho2 : (wc.alloc (.cells #[.int .i64 (k : Int), .int .i64 (g : Int)] 144)).ownsRow B 144 2 v l.length (entCells l) := hown.alloc _
  have hz : (wc.alloc (.cells #[.int .i64 (k : Int), .int .i64 (g : Int)] 144)).heap.size = wc.heap.size + 1 := by simp
  obtain ⟨d0, d1⟩ := cell_new2 wc (.int .i64 (k : Int)) (.int .i64 (g : Int)) 144
  refine wpList_append_lies _ hgd s x 268 ho B 144 i0 (.agg #[.int .i64 0, .int .i64 0]) 2 16 Tryz.underlying268 hi hz0 hz1 hz2 rfl (by decide) v l.length (entCells l) hs ho2 ⟨wc.heap.size, 0, none⟩ 1 1 [gI k, gI g] hx rfl (fun j u hu => by
    rw [add_at]
    match j, hu with
    | 0, hu => simp at hu; subst hu; exact d0
    | 1, hu => simp at hu; subst hu; exact d1
    | j + 2, hu => simp at hu) (by intro u hu; simp at hu; rcases hu with rfl | rfl <;> rfl) (by decide) (by unfold maxLen; omega) (by omega) (by omega) (wc.heap.size + 1) hz ?_
  intro g' cap w2 ow hg hat hlt
  refine h _ w2 ?_ ((St.of_below hb).trans (St.of_grown (S := fun x => v.ownBlock = some x) hg fun k e => e) fun _ _ q => q) ?_
  · show World.ownsRow _ _ _ _ _ _ _
    rw [entCells_snoc, List.length_append]
    exact ow
  · rcases hat with h1 | h1
    · exact .inl (by rw [h1]; rfl)
    · exact .inr ⟨g', rfl, by omega⟩
theorem RS.upto_len (r : RS) (k : Nat) : (r.upto k).length ≤ k := by
  induction k with
  | zero => simp [RS.upto]
  | succ k ih =>
    unfold RS.upto
    split
    · omega
    · simp only [List.length_append, List.length_singleton]; omega
theorem RS.alive_at {r : RS} {k : Nat} (hk : k < r.gens.length) : r.aliveB (k : Int) ((r.gens.getD k 0 : Nat) : Int) = decide (k ∉ r.free) := by
  have h1 : r.gens[k]? = some (r.gens.getD k 0) := by rw [List.getD_eq_getElem?_getD, List.getElem?_eq_getElem hk]; rfl
  generalize r.gens.getD k 0 = g at *
  rw [Bool.eq_iff_iff, RS.aliveB_iff, decide_eq_true_iff, Int.toNat_natCast, Int.toNat_natCast]
  exact ⟨fun h => h.2.2.1, fun h => ⟨by omega, by omega, h, h1⟩⟩
end Go.Proofs.YthadfdbkkmmgoaaGreatDoor.Ro
namespace Go.Proofs.YthadfdbkkmmgoaaGreatDoor.Ro
open Go.RowKit Go.Shelf Go.Maps
/-- A roll whose blocks are S. -/
def Rol (B : Nat) (W : World) (rb t : Nat) (r : RS) (S : Nat → Prop) : Prop := ∃ gb mb fv, Rl B W rb gb mb fv t r ∧ ∀ k, S k ↔ Ft rb gb mb fv k
section
variable {B : Nat} {W W' : World} {rb t : Nat} {r : RS} {S : Nat → Prop}
theorem Rol.kept {T : Nat → Prop} (h : Rol B W rb t r S) (hs : St T W W') (hd : ∀ k, S k → ¬ T k) : Rol B W' rb t r S := by
  obtain ⟨gb, mb, fv, h1, h2⟩ := h
  exact ⟨gb, mb, fv, h1.kept hs fun k hk => hd k ((h2 k).2 hk), h2⟩
theorem Rol.later (h : Rol B W rb t r S) (hb : Below W.heap.size W W') : Rol B W' rb t r S := h.kept (T := fun _ => False) (St.of_below hb) fun _ _ q => q
theorem Rol.lt (h : Rol B W rb t r S) (k : Nat) (hk : S k) : B ≤ k ∧ k < W.heap.size := by
  obtain ⟨gb, mb, fv, h1, h2⟩ := h
  exact h1.lt k ((h2 k).1 hk)
theorem Rol.ok (h : Rol B W rb t r S) : r.ok := by obtain ⟨gb, mb, fv, h1, h2⟩ := h; exact h1.ok
theorem Rol.small (h : Rol B W rb t r S) : r.gens.length ≤ 64 := by obtain ⟨gb, mb, fv, h1, h2⟩ := h; exact h1.small
theorem Rol.few (h : Rol B W rb t r S) : r.free.length ≤ r.gens.length := by obtain ⟨gb, mb, fv, h1, h2⟩ := h; exact h1.few
theorem Rol.old (h : Rol B W rb t r S) : ∀ g ∈ r.gens, g ≤ t := by obtain ⟨gb, mb, fv, h1, h2⟩ := h; exact h1.old
theorem Rol.base (h : Rol B W rb t r S) : B ≤ W.heap.size := by obtain ⟨gb, mb, fv, h1, h2⟩ := h; have := h1.lt rb (.inl rfl); omega
theorem Rol.below (h : Rol B W rb t r S) (hs : St S W W') : Below B W W' := hs.below (fun k hk => (h.lt k hk).1) h.base
theorem rol_new (W : World) (n : Nat) (hn : n ≤ 64) :
    Calls Tryz.prog 87 #[.int .i64 (n : Int)] W fun e W' => ∃ rb S, e = .returned (.tuple #[.pointer (some ⟨rb, 0, none⟩), .nilIface]) ∧ Rol W.heap.size W' rb 0 (RS.fresh n) S ∧ Below W.heap.size W W' := by
  refine (new_some W n hn).mono ?_
  rintro e w ⟨rb, gb, mb, fv, rfl, h, hb⟩
  exact ⟨rb, _, rfl, ⟨gb, mb, fv, h, fun _ => Iff.rfl⟩, hb⟩
theorem rol_take {f : List Nat} {i : Nat} (h : Rol B W rb t r S) (hf : r.free = f ++ [i]) (ht : t ≤ 1000) :
    Calls Tryz.prog 152 #[.pointer (some ⟨rb, 0, none⟩)] W fun e W' => e = .returned (.tuple #[.agg #[.int .i64 i, .int .i64 ((r.gens.getD i 0 : Nat) + 1 : Int)], .nilIface]) ∧ Rol B W' rb (t + 1) (r.took i) S ∧ St S W W' := by
  obtain ⟨gb, mb, fv, h1, h2⟩ := h
  refine (take_some h1 hf ht).mono ?_
  rintro e w ⟨rfl, fv', h3, h4, h5⟩
  refine ⟨rfl, ⟨gb, mb, fv', h3, fun k => ?_⟩, ⟨h5.os, h5.tape, h5.output, h5.size, fun k hk hn => h5.block k hk fun q => hn ((h2 k).2 q)⟩⟩
  rw [h2 k]
  unfold Ft
  rw [h4]
theorem rol_full (Ad : Nat → Addr) (h : Rol B W rb t r S) (hE : Env4 W Ad) (hf : r.free = []) :
    Calls Tryz.prog 152 #[.pointer (some ⟨rb, 0, none⟩)] W fun e W' => ∃ b, e = .returned (.tuple #[.agg #[.int .i64 0, .int .i64 0], .iface 159 (.pointer (some ⟨b, 0, none⟩))]) ∧ W.heap.size ≤ b ∧ ErrAt Ad W' (.iface 159 (.pointer (some ⟨b, 0, none⟩))) bTake 6 ∧ Below W.heap.size W W' := by
  obtain ⟨gb, mb, fv, h1, h2⟩ := h
  exact take_full Ad h1 hE hf
theorem rol_alive (h : Rol B W rb t r S) (i g : Int) (hi : I64 i) (hg : I64 g) :
    Calls Tryz.prog 156 #[.pointer (some ⟨rb, 0, none⟩), .agg #[.int .i64 i, .int .i64 g]] W fun e W' => e = .returned (.bool (r.aliveB i g)) ∧ Below W.heap.size W W' := by
  obtain ⟨gb, mb, fv, h1, h2⟩ := h
  exact alive_any h1 i g hi hg
theorem rol_dead (Ad : Nat → Addr) (h : Rol B W rb t r S) (hE : Env4 W Ad) (i g : Int) (hi : I64 i) (hg : I64 g) (ha : r.aliveB i g = false) :
    Calls Tryz.prog 155 #[.pointer (some ⟨rb, 0, none⟩), .agg #[.int .i64 i, .int .i64 g]] W fun e W' => ∃ v, e = .returned v ∧ ErrAt Ad W' v bFree 17 ∧ Below W.heap.size W W' := by
  obtain ⟨gb, mb, fv, h1, h2⟩ := h
  exact free_dead Ad h1 hE i g hi hg ha
theorem rol_free (h : Rol B W rb t r S) (k : Nat) (g : Int) (hi : I64 (k : Int)) (hg : I64 g) (ha : r.aliveB (k : Int) g = true) :
    Calls Tryz.prog 155 #[.pointer (some ⟨rb, 0, none⟩), .agg #[.int .i64 (k : Int), .int .i64 g]] W fun e W' => e = .returned .nilIface ∧ ∃ S', Rol B W' rb t (r.freed k) S' ∧ St S W W' ∧ ∀ x, S' x → S x ∨ W.heap.size ≤ x := by
  obtain ⟨gb, mb, fv, h1, h2⟩ := h
  refine (free_alive h1 k g hi hg ha).mono ?_
  rintro e w ⟨rfl, fv', h3, h4, h5⟩
  refine ⟨rfl, _, ⟨gb, mb, fv', h3, fun _ => Iff.rfl⟩, ⟨h5.os, h5.tape, h5.output, h5.size, fun k hk hn => h5.block k hk fun q => hn ((h2 k).2 q)⟩, fun x hx => ?_⟩
  rcases hx with hx | hx | hx | hx
  · exact .inl ((h2 x).2 (.inl hx))
  · exact .inl ((h2 x).2 (.inr (.inl hx)))
  · exact .inl ((h2 x).2 (.inr (.inr (.inl hx))))
  · rcases h4 with h4 | ⟨y, h4, h6⟩
    · exact .inl ((h2 x).2 (.inr (.inr (.inr (h4 ▸ hx)))))
    · rw [h4] at hx; simp at hx; exact .inr (by omega)
theorem rol_count (h : Rol B W rb t r S) : Calls Tryz.prog 110 #[.pointer (some ⟨rb, 0, none⟩)] W fun e W' => e = .returned (.int .i64 (r.count : Int)) ∧ W' = W := by
  obtain ⟨gb, mb, fv, h1, h2⟩ := h
  exact count_any h1
end
theorem Env4.same {w : World} {Ad : Nat → Addr} (h : Env4 w Ad) {p k : Nat} (hp : p ∈ four) (hk : k ∈ four) : decide (Ad p = Ad k) = decide (p = k) := by
  by_cases e : p = k
  · subst e; simp
  · have : Ad p ≠ Ad k := fun h' => e (h.inj p hp k hk h')
    simp [e, this]
theorem is_err (Ad : Nat → Addr) {W : World} {v : Value} {s : ByteArray} {p k : Nat} (hE : Env4 W Ad) (h : ErrAt Ad W v s p) (hp : p ∈ four) (hk : k ∈ four) :
    Calls Tryz.prog 11 #[v, .iface 330 (.pointer (some (Ad k)))] W fun e W' => e = .returned (.bool (decide (p = k))) ∧ Below W.heap.size W W' := by
  obtain ⟨t, q, rfl, -⟩ := h.1.shape
  refine is_by Ad k t q _ W ((eis_gen Ad W.heap.size k W [s] _ p (hE.sen p hp) (hE.sen k hk) (hE.same hp hk) h.1).mono ?_)
  rintro e w' ⟨rfl, rfl⟩
  exact ⟨rfl, Below.refl _ _⟩
theorem ErrAt.kept {Ad : Nat → Addr} {W W' : World} {b : Nat} {s : ByteArray} {k : Nat} {S : Nat → Prop} (h : ErrAt Ad W (.iface 159 (.pointer (some ⟨b, 0, none⟩))) s k) (hs : St S W W') (hb : ¬ S b) : ErrAt Ad W' (.iface 159 (.pointer (some ⟨b, 0, none⟩))) s k := by
  obtain ⟨⟨b', inner, hv, hlt, c0, c1, hi⟩, h2⟩ := h
  obtain rfl : b = b' := by simpa using hv
  have e := hs.block b hlt hb
  exact ⟨⟨b, inner, rfl, Nat.lt_of_lt_of_le hlt hs.size, (World.cell?_of_block (a := ⟨b, 0, none⟩) e).trans c0, (World.cell?_of_block (a := ⟨b, 1, none⟩) e).trans c1, hi⟩, h2⟩
end Go.Proofs.YthadfdbkkmmgoaaGreatDoor.Ro
namespace Go.Proofs.YthadfdbkkmmgoaaGreatDoor.Ro
open Go.RowKit Go.Shelf Go.Maps
theorem bAl (W : World) (o : Obj) : Below W.heap.size W (W.alloc o) := (Below.refl _ _).alloc (Nat.le_refl _) _
theorem St.at {S : Nat → Prop} {W W' : World} {b : Nat} {o : Obj} (hs : St S W W') (h : W.heap[b]? = some o) (hn : ¬ S b) : W'.heap[b]? = some o := (hs.block b (Array.getElem?_eq_some_iff.1 h).1 hn).trans h
set_option maxRecDepth 100000 in
theorem eql_ent (i g i' g' : Int) (hi : I64 i) (hg : I64 g) (hi' : I64 i') (hg' : I64 g') (w : World) : (binOp .eql 144 (.agg #[.int .i64 i, .int .i64 g]) (.agg #[.int .i64 i', .int .i64 g'])).run Tryz.prog w = .ok (.bool (decide (i = i' ∧ g = g'))) w := by
  obtain ⟨r, hr, hiff⟩ := run_equal_deep (P := Tryz.prog) w (m := 2) (by omega) (k := 144) (by kernel_rfl) Tryz.wide24 (key_ent i g hi hg) (key_ent i' g' hi' hg')
  have e : r = decide (i = i' ∧ g = g') := by
    rw [Bool.eq_iff_iff, hiff, decide_eq_true_iff]
    exact ⟨fun h => kl_inj hi hg hi' hg' h, fun h => by rw [h.1, h.2]⟩
  unfold entV at hr
  rw [← e]
  simp [binOp, hr]
set_option maxRecDepth 100000 in
theorem neq_ent (i g i' g' : Int) (hi : I64 i) (hg : I64 g) (hi' : I64 i') (hg' : I64 g') (w : World) : (binOp .neq 144 (.agg #[.int .i64 i, .int .i64 g]) (.agg #[.int .i64 i', .int .i64 g'])).run Tryz.prog w = .ok (.bool (!decide (i = i' ∧ g = g'))) w := by
  obtain ⟨r, hr, hiff⟩ := run_equal_deep (P := Tryz.prog) w (m := 2) (by omega) (k := 144) (by kernel_rfl) Tryz.wide24 (key_ent i g hi hg) (key_ent i' g' hi' hg')
  have e : r = decide (i = i' ∧ g = g') := by
    rw [Bool.eq_iff_iff, hiff, decide_eq_true_iff]
    exact ⟨fun h => kl_inj hi hg hi' hg' h, fun h => by rw [h.1, h.2]⟩
  unfold entV at hr
  rw [← e]
  simp [binOp, hr]
end Go.Proofs.YthadfdbkkmmgoaaGreatDoor.Ro
namespace Go.Proofs.YthadfdbkkmmgoaaGreatDoor.Ro
open Go.ChangeShapes Go.WideShapes Go.ChangeAt Go.RowKit
theorem u64_nat (m : Int) : ∃ q : Nat, IntKind.u64.wrap m = (q : Int) := by
  have h : 0 ≤ IntKind.u64.wrap m := by
    show 0 ≤ m % _
    exact Int.emod_nonneg _ (by decide)
  exact Int.eq_ofNat_of_zero_le h
theorem rem_at (m : Int) (n : Nat) (h0 : 0 < n) : ∃ (u : Int) (k : Nat), k < n ∧ IntKind.u64.wrap m = u ∧ u.tmod (n : Int) = (k : Int) := by
  obtain ⟨q, hq⟩ := u64_nat m
  exact ⟨_, q % n, Nat.mod_lt _ h0, hq, by rw [← Int.ofNat_tmod]⟩
/-- What is listed is given. -/
theorem RS.upto_mem {r : RS} {k : Nat} {p : Nat × Nat} (h : p ∈ r.upto k) : p.1 < k ∧ p.1 ∉ r.free ∧ p.2 = r.gens.getD p.1 0 := by
  induction k with
  | zero => simp [RS.upto] at h
  | succ k ih =>
    unfold RS.upto at h
    split at h
    · obtain ⟨a, b, c⟩ := ih h; exact ⟨by omega, b, c⟩
    · rename_i hk
      rcases List.mem_append.1 h with h | h
      · obtain ⟨a, b, c⟩ := ih h; exact ⟨by omega, b, c⟩
      · simp at h; subst h; exact ⟨by omega, hk, rfl⟩
theorem RS.all_alive {r : RS} {p : Nat × Nat} (h : p ∈ r.all) : r.aliveB (p.1 : Int) (p.2 : Int) = true ∧ p.1 < r.gens.length := by
  obtain ⟨a, b, c⟩ := RS.upto_mem h
  refine ⟨?_, a⟩
  rw [c, RS.alive_at a]
  simpa using b
theorem RS.upto_full {r : RS} (h : r.free = []) (k : Nat) : r.upto k = (List.range k).map fun i => (i, r.gens.getD i 0) := by
  induction k with
  | zero => rfl
  | succ k ih => rw [RS.upto, if_neg (by rw [h]; simp), ih, List.range_succ, List.map_append]; rfl
theorem RS.all_full {r : RS} (h : r.free = []) {k : Nat} (hk : k < r.gens.length) : r.all[k]? = some (k, r.gens.getD k 0) := by
  unfold RS.all
  rw [RS.upto_full h]
  simp [hk]
theorem RS.all_len {r : RS} (h : r.free = []) : r.all.length = r.gens.length := by
  unfold RS.all
  rw [RS.upto_full h]
  simp
theorem Ents.cell {B : Nat} {W : World} {g cap : Nat} {l : List (Nat × Nat)} (h : Ents B W (.slice (some ⟨g, 0, none⟩) l.length cap) l) {j : Nat} {p : Nat × Nat} (hj : l[j]? = some p) : W.cell? ⟨g, j * 2, none⟩ = some (.int .i64 (p.1 : Int)) ∧ W.cell? ⟨g, j * 2 + 1, none⟩ = some (.int .i64 (p.2 : Int)) := by
  have hlt := (List.getElem?_eq_some_iff.1 hj).1
  have G : ∀ (l : List (Nat × Nat)) (j : Nat), l[j]? = some p → (entCells l)[j * 2]? = some (gI p.1) ∧ (entCells l)[j * 2 + 1]? = some (gI p.2) := by
    intro l
    induction l with
    | nil => intro j h; simp at h
    | cons x l ih =>
      intro j h
      cases j with
      | zero => simp at h; subst h; exact ⟨rfl, rfl⟩
      | succ j =>
        have := ih j (by simpa using h)
        rw [show (j + 1) * 2 = j * 2 + 2 by omega]
        exact ⟨by simpa [entCells] using this.1, by simpa [entCells] using this.2⟩
  obtain ⟨g0, g1⟩ := G l j hj
  exact ⟨(World.ownsRow.cellAt h (j * 2) (by omega)).trans g0, (World.ownsRow.cellAt h (j * 2 + 1) (by omega)).trans g1⟩
theorem Ents.some {B : Nat} {W : World} {a : Option Addr} {cap : Nat} {l : List (Nat × Nat)} (h : Ents B W (.slice a l.length cap) l) (h0 : 0 < l.length) : ∃ g, a = Option.some ⟨g, 0, none⟩ ∧ B ≤ g ∧ g < W.heap.size := by
  obtain ⟨g, cap', e, h1, h2⟩ := World.ownsRow.form h h0
  simp only [Value.slice.injEq, true_and] at e
  exact ⟨g, e.1, h1, h2⟩
end Go.Proofs.YthadfdbkkmmgoaaGreatDoor.Ro
namespace Go.Proofs.YthadfdbkkmmgoaaGreatDoor.Ro
open Go.RowKit Go.Shelf Go.Maps
theorem RS.took_len (r : RS) (i : Nat) : (r.took i).gens.length = r.gens.length := by simp [RS.took]
theorem RS.took_count {r : RS} {f : List Nat} {i : Nat} (hf : r.free = f ++ [i]) : (r.took i).free.length = f.length := by simp [RS.took, hf]
theorem RS.took_own {r : RS} {f : List Nat} {i : Nat} (h : r.ok) (hf : r.free = f ++ [i]) : (r.took i).aliveB (i : Int) ((r.gens.getD i 0 : Nat) + 1 : Int) = true := by
  rw [RS.took_alive h hf, if_pos ⟨rfl, by omega⟩]
theorem I64_mid {n : Int} (h0 : -1000000 ≤ n) (h1 : n ≤ 1000000) : I64 n := by
  unfold I64 Lit.wf
  simp [IntKind.min, IntKind.max, IntKind.signed, IntKind.bits]
  omega
theorem RS.alive_less {r : RS} {k : Nat} (hk : k < r.gens.length) : r.aliveB (k : Int) (((r.gens.getD k 0 : Nat) : Int) - 1) = false := by
  rw [Bool.eq_false_iff]
  intro h
  obtain ⟨_, h2, _, h4⟩ := (RS.aliveB_iff _ _ _).1 h
  have h5 : r.gens[k]? = some (r.gens.getD k 0) := by rw [List.getD_eq_getElem?_getD, List.getElem?_eq_getElem hk]; rfl
  rw [Int.toNat_natCast, h5] at h4
  simp only [Option.some.injEq] at h4
  omega
theorem RS.gen_le {B : Nat} {W : World} {rb t : Nat} {r : RS} {S : Nat → Prop} (h : Rol B W rb t r S) {k : Nat} (hk : k < r.gens.length) : r.gens.getD k 0 ≤ t := by
  rw [List.getD_eq_getElem?_getD, List.getElem?_eq_getElem hk]; exact h.old _ (List.getElem_mem hk)
end Go.Proofs.YthadfdbkkmmgoaaGreatDoor.Ro
namespace Go.Proofs.YthadfdbkkmmgoaaGreatDoor.Ro
open Go.RowKit Go.Shelf Go.Maps
theorem filter_lt (l : List Nat) (k : Nat) : (l.filter fun x => decide (x < k + 1)).length = (l.filter fun x => decide (x < k)).length + l.count k := by
  induction l with
  | nil => rfl
  | cons a l ih =>
    by_cases h1 : a < k
    · have h2 : a < k + 1 := by omega
      have h3 : a ≠ k := by omega
      simp only [List.filter_cons, h1, h2, decide_true, if_true, List.length_cons, List.count_cons, ih]
      simp [h3]
      omega
    · by_cases h2 : a = k
      · subst h2
        simp only [List.filter_cons, List.count_cons]
        simp [ih]
        omega
      · have h3 : ¬ a < k + 1 := by omega
        simp only [List.filter_cons, h1, h3, decide_false, List.count_cons]
        simp [ih, h2]
theorem RS.upto_count {r : RS} (h : r.free.Nodup) (k : Nat) : (r.upto k).length + (r.free.filter fun x => decide (x < k)).length = k := by
  induction k with
  | zero => simp [RS.upto]
  | succ k ih =>
    rw [filter_lt, h.count]
    unfold RS.upto
    split
    · omega
    · simp only [List.length_append, List.length_singleton]; omega
theorem RS.all_count {r : RS} (h : r.ok) : r.all.length = r.count := by
  have h1 := RS.upto_count h.1 r.gens.length
  have h2 : (r.free.filter fun x => decide (x < r.gens.length)) = r.free := List.filter_eq_self.2 fun x hx => by simpa using h.2 x hx
  rw [h2] at h1
  unfold RS.all RS.count
  omega
def trues (al : List Bool) : Nat := al.count true
theorem getD_set {l : List Nat} {i j x : Nat} : (l.set i x).getD j 0 = if i = j ∧ j < l.length then x else l.getD j 0 := by
  simp only [List.getD_eq_getElem?_getD, List.getElem?_set]
  by_cases h : i = j
  · subst h
    by_cases h2 : i < l.length
    · simp [h2]
    · simp [h2]
  · simp [h]
theorem count_set (al : List Bool) (k : Nat) (h : al[k]? = some true) : trues (al.set k false) + 1 = trues al := by
  unfold trues
  induction al generalizing k with
  | nil => simp at h
  | cons a al ih =>
    cases k with
    | zero => simp at h; subst h; simp
    | succ k =>
      have := ih k (by simpa using h)
      simp only [List.set_cons_succ, List.count_cons]
      omega
theorem set_self (al : List Bool) (k : Nat) (h : al[k]? = some false) : al.set k false = al := by
  apply List.ext_getElem?
  intro j
  rw [List.getElem?_set]
  split
  · rename_i e; subst e
    obtain ⟨h1, h2⟩ := List.getElem?_eq_some_iff.1 h
    rw [if_pos h1, h]
  · rfl
/-- A row of bools. -/
def Bools (B : Nat) (W : World) (v : Value) (l : List Bool) : Prop := W.ownsRow B 4 1 v l.length (l.map Value.bool)
theorem infoBool : (Tryz.prog.info? 4).map (fun i => (i.zero, i.size, i.bytes)) = some (some (.bool false), 1, 1) := by kernel_rfl
theorem Ents.kept {B : Nat} {W W' : World} {v : Value} {l : List (Nat × Nat)} {T : Nat → Prop} (h : Ents B W v l) (hs : St T W W') (hn : ∀ x : Nat, v.ownBlock = Option.some x → ¬ T x) : Ents B W' v l := by
  refine ⟨h.1, ?_⟩
  rcases h.2 with h1 | ⟨g, cap, cur, h1, h2, h3, h4⟩
  · exact .inl h1
  · exact .inr ⟨g, cap, cur, h1, h2, hs.at h3 (hn g (by rw [h1]; rfl)), h4⟩
theorem Bools.kept {B : Nat} {W W' : World} {v : Value} {l : List Bool} {T : Nat → Prop} (h : Bools B W v l) (hs : St T W W') (hn : ∀ x, v.ownBlock = some x → ¬ T x) : Bools B W' v l := by
  refine ⟨h.1, ?_⟩
  rcases h.2 with h1 | ⟨g, cap, cur, h1, h2, h3, h4⟩
  · exact .inl h1
  · exact .inr ⟨g, cap, cur, h1, h2, hs.at h3 (hn g (by rw [h1]; rfl)), h4⟩
theorem rows_apart {B B' : Nat} {W : World} {v u : Value} {l : List (Nat × Nat)} {m : List Bool} (h : Ents B W v l) (h' : Bools B' W u m) (x : Nat) (hx : v.ownBlock = some x) : u.ownBlock ≠ some x := fun hu => by
  rcases h.2 with ⟨h1, _⟩ | ⟨g, cap, cur, h1, h2, h3, h4⟩
  · rw [h1] at hx; simp [Value.ownBlock] at hx
  · rcases h'.2 with ⟨k1, _⟩ | ⟨g', cap', cur', k1, k2, k3, k4⟩
    · rw [k1] at hu; simp [Value.ownBlock] at hu
    · rw [h1] at hx
      rw [k1] at hu
      obtain rfl : g = x := by simpa [Value.ownBlock] using hx
      obtain rfl : g' = g := by simpa [Value.ownBlock] using hu
      rw [h3] at k3
      simp at k3
end Go.Proofs.YthadfdbkkmmgoaaGreatDoor.Ro
namespace Go.Proofs.YthadfdbkkmmgoaaGreatDoor.Ro
open Go.RowKit Go.Shelf Go.Maps
section
variable {B : Nat} {w wr w' : World} {rb n : Nat} {gv av : Value} {gl : List (Nat × Nat)} {al : List Bool} {r : RS} {t : Nat} {S : Nat → Prop}
end
theorem drewN_below (W : World) (B n : Nat) : Below B W (W.drewN n) := ⟨rfl, rfl, rfl, Nat.le_refl _, fun _ _ => rfl⟩
theorem bools_slice {B : Nat} {W : World} {v : Value} {l : List Bool} (h : Bools B W v l) : ∃ a c, v = .slice a l.length c := by
  rcases h.2 with ⟨h1, h2⟩ | ⟨g, cap, cur, h1, _⟩
  · exact ⟨none, 0, by rw [h2]; exact h1⟩
  · exact ⟨_, _, h1⟩
theorem bools_some {B : Nat} {W : World} {a : Option Addr} {cap : Nat} {l : List Bool} (h : Bools B W (.slice a l.length cap) l) (h0 : 0 < l.length) : ∃ g, a = some ⟨g, 0, none⟩ := by
  obtain ⟨g, cap', e, h1, h2⟩ := World.ownsRow.form h h0
  simp only [Value.slice.injEq, true_and] at e
  exact ⟨g, e.1⟩
end Go.Proofs.YthadfdbkkmmgoaaGreatDoor.Ro
namespace Go.Proofs.YthadfdbkkmmgoaaGreatDoor.Ro
open Go.RowKit Go.Shelf Go.Maps
/-- Which places are given. -/
def RS.isL (r : RS) : List Bool := (List.range r.gens.length).map fun i => decide (i ∉ r.free)
theorem RS.isL_len (r : RS) : r.isL.length = r.gens.length := by simp [RS.isL]
theorem RS.isL_at {r : RS} {k : Nat} (hk : k < r.gens.length) : r.isL[k]? = some (decide (k ∉ r.free)) := by simp [RS.isL, hk]
def Fu (ub gb ib : Nat) (fv : Value) (k : Nat) : Prop := k = ub ∨ k = gb ∨ k = ib ∨ fv.ownBlock = some k
section
variable {B : Nat} {W W' : World} {ub gb ib t : Nat} {fv : Value} {r : RS}
end
theorem alive_split {r : RS} {k : Nat} (g : Int) (hk : k < r.gens.length) : r.aliveB (k : Int) g = (decide (k ∉ r.free) && (((r.gens.getD k 0 : Nat) : Int) == g)) := by
  have h1 : r.gens[k]? = some (r.gens.getD k 0) := by rw [List.getD_eq_getElem?_getD, List.getElem?_eq_getElem hk]; rfl
  generalize r.gens.getD k 0 = m at *
  rw [Bool.eq_iff_iff, RS.aliveB_iff, Bool.and_eq_true, decide_eq_true_iff, beq_iff_eq, Int.toNat_natCast, h1]
  simp only [Option.some.injEq]
  constructor
  · rintro ⟨_, b, c, d⟩; exact ⟨c, by omega⟩
  · rintro ⟨c, d⟩; exact ⟨by omega, by omega, c, by omega⟩
theorem alive_out {r : RS} {i g : Int} (h : i < 0 ∨ (r.gens.length : Int) ≤ i) : r.aliveB i g = false := by
  rw [Bool.eq_false_iff]
  intro ha
  obtain ⟨a, b, c, d⟩ := (RS.aliveB_iff _ _ _).1 ha
  have := (List.getElem?_eq_some_iff.1 d).1
  omega
theorem RS.took_is {r : RS} {f : List Nat} {i : Nat} (h : r.ok) (hf : r.free = f ++ [i]) : (r.took i).isL = r.isL.set i true := by
  obtain ⟨h1, h2⟩ := h
  rw [hf] at h1 h2
  have hi := h2 i (by simp)
  have hn : i ∉ f := fun hm => (List.nodup_append.1 h1).2.2 i hm i (by simp) rfl
  apply List.ext_getElem?
  intro j
  rw [List.getElem?_set]
  have hl : (r.took i).gens.length = r.gens.length := RS.took_len r i
  by_cases hj : j < r.gens.length
  · rw [RS.isL_at (r := r.took i) (by omega)]
    by_cases e : i = j
    · subst e
      simp [RS.isL_len, hj, RS.took, hf, hn]
    · rw [if_neg e, RS.isL_at hj]
      simp only [RS.took, hf, List.dropLast_concat, List.mem_append, List.mem_singleton]
      have : j ≠ i := fun q => e q.symm
      simp [this]
  · have e1 : (r.took i).isL[j]? = none := List.getElem?_eq_none (by rw [RS.isL_len]; omega)
    have e2 : r.isL[j]? = none := List.getElem?_eq_none (by rw [RS.isL_len]; omega)
    rw [e1, e2]
    split
    · rename_i e; rw [if_neg (by rw [RS.isL_len]; omega)]
    · rfl
theorem bools_set (l : List Bool) (i : Nat) (b : Bool) : (l.map Value.bool).toArray.setIfInBounds i (.bool b) = ((l.set i b).map Value.bool).toArray := by
  rw [List.map_set]
  simp
end Go.Proofs.YthadfdbkkmmgoaaGreatDoor.Ro
namespace Go.Proofs.YthadfdbkkmmgoaaGreatDoor.Ro
open Go.RowKit Go.Shelf Go.Maps
theorem wpList_row {ops : Array Oper} {rest : List Oper} {o : Oper} {a : Act} {Q : Exit → Act → World → Prop} (hgd : o.guard = none) (s x : Operand)
    (ho : o.op = .call { callee := .builtin .append, args := #[s, x], argTypes := #[68, 68] }) {B ub : Nat} {wc : World} {fv : Value} {f : List Nat} {k : Nat} (hown : wc.ownsRow B 3 1 fv f.length (f.map gI)) (hl : f.length ≤ 1000) (hB : B ≤ wc.heap.size)
    {cs : Array Value} {bt : TypeId} {ix : Nat} (hbox : wc.heap[ub]? = some (.cells cs bt (0, 0))) (hcs : cs[ix]? = some fv) (hne : fv.ownBlock ≠ some ub)
    (hs : a.eval s = fv) (hx : a.eval x = .slice (some ⟨wc.heap.size, 0, none⟩) 1 1)
    (h : ∀ g' cap w2, Hid (Grew B fv (f ++ [k]) wc (.slice (some ⟨g', 0, none⟩) (f.length + 1) cap) w2) → w2.cell? ⟨ub, ix, none⟩ = some fv → w2.frozen? ⟨ub, ix, none⟩ = false → wpList Tryz.prog ops Q rest (a.put o.dst (.slice (some ⟨g', 0, none⟩) (f.length + 1) cap)) w2) :
    wpList Tryz.prog ops Q (o :: rest) a (wc.alloc (.cells #[.int .i64 (k : Int)] 3)) := by
  obtain ⟨i0, hi, hz0, hz1, hz2⟩ := info_parts infoInt
  have hb : Below wc.heap.size wc (wc.alloc (.cells #[.int .i64 (k : Int)] 3)) := bAl _ _
  have ho2 : (wc.alloc (.cells #[.int .i64 (k : Int)] 3)).ownsRow B 3 1 fv f.length (f.map gI) := hown.alloc _
  have hz : (wc.alloc (.cells #[.int .i64 (k : Int)] 3)).heap.size = wc.heap.size + 1 := by simp
  refine wpList_append_lies _ hgd s x 68 ho B 3 i0 (.int .i64 0) 1 8 Tryz.underlying68 hi hz0 hz1 hz2 rfl (by decide) fv f.length (f.map gI) hs ho2 ⟨wc.heap.size, 0, none⟩ 1 1 [gI k] hx rfl (fun j u hu => by
    rw [add_at]
    match j, hu with
    | 0, hu =>
      simp at hu
      subst hu
      exact new_cell wc _ 3
    | j + 1, hu => simp at hu) (by intro u hu; simp at hu; subst hu; rfl) (by decide) (by unfold maxLen; omega) (by omega) (by omega) (wc.heap.size + 1) hz ?_
  intro g' cap w2 ow hg hat hlt
  have st : St (fun x => fv.ownBlock = some x) wc w2 := (St.of_below hb).trans (St.of_grown (S := fun x => fv.ownBlock = some x) hg fun k e => e) fun _ _ q => q
  have hbx := st.at hbox hne
  refine h g' cap w2 ⟨?_, st, ?_⟩ (cell_blk hbx hcs) (blk_free hbx ix)
  · have e : (f ++ [k]).length = f.length + 1 := by simp
    rw [e, List.map_append]
    exact ow
  · rcases hat with h1 | h1
    · exact .inl (by rw [h1]; rfl)
    · exact .inr ⟨g', rfl, by omega⟩
theorem made_bools (n : Nat) : madeCells (Value.bool false).cells (n * 1) = ((List.replicate n false).map Value.bool).toArray := by
  apply Array.ext_getElem?
  intro j
  by_cases hj : j < n
  · simp [madeCells, Value.cells, hj, Nat.mod_one]
  · simp [madeCells, Value.cells, hj]
theorem fresh_is (n : Nat) : (RS.fresh n).isL = List.replicate n false := by
  apply List.ext_getElem?
  intro j
  by_cases hj : j < n
  · rw [RS.isL_at (by simpa [RS.fresh] using hj)]
    simp [RS.fresh, hj]
  · rw [List.getElem?_eq_none (by rw [RS.isL_len]; simp [RS.fresh]; omega), List.getElem?_eq_none (by simp; omega)]
end Go.Proofs.YthadfdbkkmmgoaaGreatDoor.Ro
namespace Go.Proofs.YthadfdbkkmmgoaaGreatDoor.Ro
open Go.RowKit Go.Shelf Go.Maps
end Go.Proofs.YthadfdbkkmmgoaaGreatDoor.Ro
namespace Go.Proofs.YthadfdbkkmmgoaaGreatDoor.Ro
open Go.RowKit Go.Shelf Go.Maps
theorem gI_one (l : List Nat) : ∀ u ∈ l.map gI, u.oneCell' = true := by
  intro u hu
  obtain ⟨x, _, rfl⟩ := List.mem_map.1 hu
  rfl
/-- append of a row of numbers onto a row that lies above N, within a region that draws. -/
theorem step_rows {ops : Array Oper} {o : Oper} {a : Act} {K : Act → World → Prop} {Q : Exit → Act → World → Prop} {E : Prop} (hgd : o.guard = none) (s x : Operand)
    (ho : o.op = .call { callee := .builtin .append, args := #[s, x], argTypes := #[68, 68] }) {w2 wc : World} {v : Value} {xs ns : List Nat} {sb sc : Nat} (hb : Below w2.heap.size w2 wc) (hown : wc.ownsRow w2.heap.size 3 1 v xs.length (xs.map gI))
    (hsrc : ∀ j u, (ns.map gI)[j]? = some u → wc.cell? ⟨sb, j, none⟩ = some u) (hl : xs.length + ns.length ≤ 1000) (hs : a.eval s = v) (hx : a.eval x = .slice (some ⟨sb, 0, none⟩) ns.length sc)
    (h : ∀ v' w4, w4.ownsRow w2.heap.size 3 1 v' (xs ++ ns).length ((xs ++ ns).map gI) → Below w2.heap.size w2 w4 → (∀ b, b < wc.heap.size → v.ownBlock ≠ some b → w4.heap[b]? = wc.heap[b]?) → K (a.put o.dst v') w4) :
    if Region.wanted o (yielded ops a.tmps) = true then Oper.wp Tryz.prog o a wc K Q else E := by
  obtain ⟨i0, hi, hz0, hz1, hz2⟩ := info_parts infoInt
  have hw : Region.wanted o (yielded ops a.tmps) = true := by simp [Region.wanted, hgd]
  rw [if_pos hw]
  obtain ⟨v', w', hr, h2, h3, h4, h5⟩ := run_append_own_at (P := Tryz.prog) wc w2.heap.size 68 o.type 3 i0 (.int .i64 0) 1 8 Tryz.underlying68 hi hz0 hz1 hz2 rfl (by decide) v xs.length (xs.map gI) hown ⟨sb, 0, none⟩ ns.length sc (ns.map gI) (by simp) (fun j u hu => by rw [add_at]; exact hsrc j u hu) (gI_one ns) (by unfold maxLen; omega) (by omega) hb.size
  unfold Oper.wp
  simp [execOp, ho, resolve, invoke, builtin, hs, hx, hr, Result.andThen]
  refine h v' w' ?_ (hb.grown h3 hb.size fun k hk => (hown.lt k hk).1) fun b hb' hne => h3.block b hb' (fun e => hne e.symm)
  rw [List.length_append, List.map_append]
  exact h2
theorem one_src {W : World} {b k : Nat} (h : W.heap[b]? = some (.cells #[.int .i64 (k : Int)] 3 (0, 0))) : ∀ j u, ([k].map gI)[j]? = some u → W.cell? ⟨b, j, none⟩ = some u := by
  intro j u hu
  match j, hu with
  | 0, hu => simp at hu; subst hu; exact cell_blk h rfl
  | j + 1, hu => simp at hu
theorem step_rows2 {ops : Array Oper} {o : Oper} {a : Act} {K : Act → World → Prop} {Q : Exit → Act → World → Prop} {E : Prop} (hgd : o.guard = none) (s x : Operand)
    (ho : o.op = .call { callee := .builtin .append, args := #[s, x], argTypes := #[68, 68] }) {w2 wc : World} {v : Value} {xs : List Nat} {k : Nat} {sb sc : Nat} (hb : Below w2.heap.size w2 wc) (hown : wc.ownsRow w2.heap.size 3 1 v xs.length (xs.map gI))
    (hsrc : ∀ j u, ([k].map gI)[j]? = some u → wc.cell? ⟨sb, j, none⟩ = some u) (hl : xs.length + [k].length ≤ 1000) (hs : a.eval s = v) (hx : a.eval x = .slice (some ⟨sb, 0, none⟩) 1 sc)
    (h : ∀ g' cap w4, Hid (w4.ownsRow w2.heap.size 3 1 (.slice (some ⟨g', 0, none⟩) (xs.length + 1) cap) (xs ++ [k]).length ((xs ++ [k]).map gI)) → Hid (Below w2.heap.size w2 w4) → K (a.put o.dst (.slice (some ⟨g', 0, none⟩) (xs.length + 1) cap)) w4) :
    if Region.wanted o (yielded ops a.tmps) = true then Oper.wp Tryz.prog o a wc K Q else E := by
  refine step_rows (ns := [k]) (xs := xs) (w2 := w2) hgd s x ho hb hown hsrc hl hs hx ?_
  intro v' w4 ho4 hb4 _
  obtain ⟨g', cap, rfl, _, _⟩ := World.ownsRow.form ho4 (by simp)
  have e : (xs ++ [k]).length = xs.length + 1 := by simp
  have h0 := h g' cap w4
  rw [← e] at h0
  exact h0 ho4 hb4
theorem RS.freed_is {r : RS} {k : Nat} : (r.freed k).isL = r.isL.set k false := by
  apply List.ext_getElem?
  intro j
  rw [List.getElem?_set]
  have hl : (r.freed k).gens.length = r.gens.length := rfl
  by_cases hj : j < r.gens.length
  · rw [RS.isL_at (r := r.freed k) hj]
    by_cases e : k = j
    · subst e
      simp [RS.isL_len, hj, RS.freed]
    · rw [if_neg e, RS.isL_at hj]
      have : j ≠ k := fun q => e q.symm
      simp [RS.freed, this]
  · have e1 : (r.freed k).isL[j]? = none := List.getElem?_eq_none (by rw [RS.isL_len, hl]; omega)
    have e2 : r.isL[j]? = none := List.getElem?_eq_none (by rw [RS.isL_len]; omega)
    rw [e1, e2]
    split
    · rename_i e; rw [if_neg (by rw [RS.isL_len]; omega)]
    · rfl
end Go.Proofs.YthadfdbkkmmgoaaGreatDoor.Ro
namespace Go.Proofs.YthadfdbkkmmgoaaGreatDoor.Rs
open Go.RowKit Go.Shelf Go.Maps
open Go.Proofs.YthadfdbkkmmgoaaGreatDoor.At (St bAl cell_blk blk_seen blk_free drewN_below an wi wo pow32 bits_or32 pow_le add balloc)
/-- A part. -/
structure Prt where
  c : Int
  v0 : Int
  v1 : Int
  v2 : Int
  v3 : Int
  t : Int
def Prt.arr (p : Prt) : Array Value := #[.int .i64 p.c, .int .i64 p.v0, .int .i64 p.v1, .int .i64 p.v2, .int .i64 p.v3, .int .i64 p.t]
def Prt.val (p : Prt) : Value := .agg #[.int .i64 p.c, .int .i64 p.v0, .int .i64 p.v1, .int .i64 p.v2, .int .i64 p.v3, .int .i64 p.t]
def Prt.zero : Prt := ⟨0, 0, 0, 0, 0, 0⟩
/-- The cells of parts, one behind the other. -/
def pCells (l : List Prt) : List Value := l.flatMap fun p => p.arr.toList
theorem pCells_snoc (l : List Prt) (p : Prt) : pCells (l ++ [p]) = pCells l ++ p.arr.toList := by simp [pCells]
theorem pCells_at : ∀ (l : List Prt) (j : Nat) (p : Prt), l[j]? = some p → ∀ i, i < 6 → (pCells l)[j * 6 + i]? = p.arr[i]? := by
  intro l
  induction l with
  | nil => intro j p h; simp at h
  | cons x l ih =>
    intro j p h i hi
    have e : pCells (x :: l) = x.arr.toList ++ pCells l := by simp [pCells]
    rw [e]
    cases j with
    | zero =>
      simp at h
      subst h
      rw [List.getElem?_append_left (by simp [Prt.arr]; omega)]
      simp
    | succ j =>
      have h2 := ih j p (by simpa using h) i hi
      rw [List.getElem?_append_right (by simp [Prt.arr]; omega), ← h2]
      congr 1
      simp [Prt.arr]
      omega
theorem infoPart : (Tryz.prog.info? 89).map (fun i => (i.zero, i.size, i.bytes)) = some (some (.agg #[.int .i64 0, .int .i64 0, .int .i64 0, .int .i64 0, .int .i64 0, .int .i64 0]), 6, 48) := by kernel_rfl
/-- A row of parts that is owned. -/
def Prts (B : Nat) (W : World) (v : Value) (l : List Prt) : Prop := W.ownsRow B 89 6 v l.length (pCells l)
theorem Prts.slice {B : Nat} {W : World} {v : Value} {l : List Prt} (h : Prts B W v l) : ∃ a c, v = .slice a l.length c := own_slice h
theorem Prts.kept {B : Nat} {W W' : World} {v : Value} {l : List Prt} {T : Nat → Prop} (h : Prts B W v l) (hs : St T W W') (hn : ∀ x, v.ownBlock = some x → ¬ T x) : Prts B W' v l := by
  refine ⟨h.1, h.2.elim .inl fun ⟨g, cap, cur, h1, h2, h3, h4⟩ => .inr ⟨g, cap, cur, h1, h2, ?_, h4⟩⟩
  exact hs.at h3 (hn g (by rw [h1]; rfl))
theorem Prts.later {B : Nat} {W W' : World} {v : Value} {l : List Prt} (h : Prts B W v l) (hb : Below W.heap.size W W') : Prts B W' v l := h.kept (T := fun _ => False) (St.of_below hb) fun _ _ q => q
theorem Prts.lt {B : Nat} {W : World} {v : Value} {l : List Prt} (h : Prts B W v l) (k : Nat) (hk : v.ownBlock = some k) : B ≤ k ∧ k < W.heap.size := World.ownsRow.lt h k hk
theorem Prts.lower {B B' : Nat} {W : World} {v : Value} {l : List Prt} (h : Prts B W v l) (hB : B' ≤ B) : Prts B' W v l :=
  ⟨h.1, h.2.elim .inl fun ⟨g, cap, cur, h1, h2, h3⟩ => .inr ⟨g, cap, cur, h1, by omega, h3⟩⟩
/-- The six cells of a part. -/
structure Six (W : World) (b o : Nat) (p : Prt) : Prop where
  c0 : W.cell? ⟨b, o, none⟩ = some (.int .i64 p.c)
  c1 : W.cell? ⟨b, o + 1, none⟩ = some (.int .i64 p.v0)
  c2 : W.cell? ⟨b, o + 2, none⟩ = some (.int .i64 p.v1)
  c3 : W.cell? ⟨b, o + 3, none⟩ = some (.int .i64 p.v2)
  c4 : W.cell? ⟨b, o + 4, none⟩ = some (.int .i64 p.v3)
  c5 : W.cell? ⟨b, o + 5, none⟩ = some (.int .i64 p.t)
theorem Six.later {W W' : World} {b o : Nat} {p : Prt} (h : Six W b o p) (hb : Below W.heap.size W W') : Six W' b o p :=
  ⟨At.seen hb (Nat.le_refl _) h.c0, At.seen hb (Nat.le_refl _) h.c1, At.seen hb (Nat.le_refl _) h.c2, At.seen hb (Nat.le_refl _) h.c3, At.seen hb (Nat.le_refl _) h.c4, At.seen hb (Nat.le_refl _) h.c5⟩
theorem six_blk {W : World} {b : Nat} {p : Prt} {e : TypeId} (h : W.heap[b]? = some (.cells p.arr e (0, 0))) : Six W b 0 p :=
  ⟨cell_blk h rfl, cell_blk h rfl, cell_blk h rfl, cell_blk h rfl, cell_blk h rfl, cell_blk h rfl⟩
/-- A row of parts that can be read. -/
def PRow (W : World) (v : Value) (l : List Prt) : Prop := ∃ a c, v = .slice a l.length c ∧ (l = [] ∨ ∃ b o, a = some ⟨b, o, none⟩ ∧ ∀ (j : Nat) p, l[j]? = some p → Six W b (o + j * 6) p)
theorem PRow.later {W W' : World} {v : Value} {l : List Prt} (h : PRow W v l) (hb : Below W.heap.size W W') : PRow W' v l := by
  obtain ⟨a, c, h1, h2⟩ := h
  refine ⟨a, c, h1, ?_⟩
  rcases h2 with h2 | ⟨b, o, h2, h3⟩
  · exact .inl h2
  · exact .inr ⟨b, o, h2, fun j p hj => (h3 j p hj).later hb⟩
theorem Prts.row {B : Nat} {W : World} {v : Value} {l : List Prt} (h : Prts B W v l) : PRow W v l := by
  obtain ⟨a, c, rfl⟩ := h.slice
  refine ⟨a, c, rfl, ?_⟩
  by_cases h0 : l = []
  · exact .inl h0
  · obtain ⟨g, rfl⟩ : ∃ g, a = some ⟨g, 0, none⟩ := by
      obtain ⟨g, cap', e, h1, h2⟩ := World.ownsRow.form h (List.length_pos_iff.2 h0)
      simp only [Value.slice.injEq, true_and] at e
      exact ⟨g, e.1⟩
    refine .inr ⟨g, 0, rfl, fun j p hj => ?_⟩
    have hlt := (List.getElem?_eq_some_iff.1 hj).1
    have A := pCells_at l j p hj
    have C : ∀ i, i < 6 → W.cell? ⟨g, j * 6 + i, none⟩ = p.arr[i]? := fun i hi => (World.ownsRow.cellAt h (j * 6 + i) (by omega)).trans (A i hi)
    rw [Nat.zero_add]
    exact ⟨C 0 (by decide), C 1 (by decide), C 2 (by decide), C 3 (by decide), C 4 (by decide), C 5 (by decide)⟩
theorem PRow.at {W : World} {a : Option Addr} {c : Nat} {l : List Prt} (h : PRow W (.slice a l.length c) l) {j : Nat} {p : Prt} (hj : l[j]? = some p) : ∃ b o, a = some ⟨b, o, none⟩ ∧ Six W b (o + j * 6) p := by
  obtain ⟨a', c', h1, h2⟩ := h
  obtain ⟨rfl, rfl⟩ : a = a' ∧ c = c' := by simpa using h1
  rcases h2 with h2 | ⟨b, o, h2, h3⟩
  · rw [h2] at hj; simp at hj
  · exact ⟨b, o, h2, h3 j p hj⟩
theorem prts_none (W : World) : Prts W.heap.size (W.alloc (.cells #[] 89)) (.slice (some ⟨W.heap.size, 0, none⟩) 0 0) [] :=
  World.ownsRow_lit (base := W.heap.size) (e := 89) (size := 6) W #[] 0 (Nat.le_refl _) (Nat.zero_le _) rfl
/-- append of one part. -/
theorem wpList_prt {ops : Array Oper} {rest : List Oper} {o : Oper} {a : Act} {Q : Exit → Act → World → Prop} (hgd : o.guard = none) (s x : Operand)
    (ho : o.op = .call { callee := .builtin .append, args := #[s, x], argTypes := #[84, 84] }) {B : Nat} {wc : World} {v : Value} {l : List Prt} {p : Prt} (hown : Prts B wc v l) (hl : l.length ≤ 1000) (hB : B ≤ wc.heap.size)
    (hs : a.eval s = v) (hx : a.eval x = .slice (some ⟨wc.heap.size, 0, none⟩) 1 1)
    (h : ∀ v' w2, Hid (Prts B w2 v' (l ++ [p])) → Hid (St (fun x => v.ownBlock = some x) wc w2) → wpList Tryz.prog ops Q rest (a.put o.dst v') w2) :
    wpList Tryz.prog ops Q (o :: rest) a (wc.alloc (.cells #[.int .i64 p.c, .int .i64 p.v0, .int .i64 p.v1, .int .i64 p.v2, .int .i64 p.v3, .int .i64 p.t] 89)) := by
  obtain ⟨i0, hi, hz0, hz1, hz2⟩ := info_parts infoPart
  have hb := bAl wc (.cells p.arr 89)
  have ho2 : (wc.alloc (.cells p.arr 89)).ownsRow B 89 6 v l.length (pCells l) := World.ownsRow.alloc hown _
  have hh := heap_alloc_new wc (.cells p.arr 89)
  refine wpList_append_lies _ hgd s x 84 ho B 89 i0 (.agg #[.int .i64 0, .int .i64 0, .int .i64 0, .int .i64 0, .int .i64 0, .int .i64 0]) 6 48 Tryz.underlying84 hi hz0 hz1 hz2 rfl (by decide) v l.length (pCells l) hs ho2 ⟨wc.heap.size, 0, none⟩ 1 1 p.arr.toList hx rfl (fun j u hu => by
    rw [add_at]
    exact cell_blk hh (by simpa using hu)) (by intro u hu; simp [Prt.arr] at hu; rcases hu with rfl | rfl | rfl | rfl | rfl | rfl <;> rfl) (by decide) (by unfold maxLen; omega) (by omega) (by simp; omega) (wc.heap.size + 1) (by simp) ?_
  intro g' cap w2 ow hg hat hlt
  refine h _ w2 ?_ ((St.of_below hb).trans (St.of_grown (S := fun x => v.ownBlock = some x) hg fun k e => e) fun _ _ q => q)
  show World.ownsRow _ _ _ _ _ _ _
  rw [pCells_snoc, List.length_append]
  exact ow
/-- Where a component is among parts. -/
def ix (l : List Prt) (comp : Int) : Nat := l.findIdx fun p => p.c == comp
def ixI (l : List Prt) (comp : Int) : Int := if ix l comp < l.length then (ix l comp : Int) else -1
theorem ix_hit {l : List Prt} {comp : Int} {k : Nat} {p : Prt} (hk : k ≤ ix l comp) (hp : l[k]? = some p) (hc : p.c = comp) : ix l comp = k := by
  obtain ⟨hl, rfl⟩ := List.getElem?_eq_some_iff.1 hp
  refine Nat.le_antisymm (Nat.le_of_not_lt fun q => ?_) hk
  have := List.not_of_lt_findIdx q
  simp [hc] at this
theorem ix_miss {l : List Prt} {comp : Int} {k : Nat} {p : Prt} (hk : k ≤ ix l comp) (hp : l[k]? = some p) (hc : ¬ p.c = comp) : k + 1 ≤ ix l comp := by
  obtain ⟨hl, rfl⟩ := List.getElem?_eq_some_iff.1 hp
  refine Nat.lt_of_le_of_ne hk fun e => ?_
  have hlt : List.findIdx (fun p : Prt => p.c == comp) l < l.length := by show ix l comp < _; omega
  have := List.findIdx_getElem (w := hlt)
  simp only [beq_iff_eq] at this
  have e' : List.findIdx (fun p : Prt => p.c == comp) l = k := e.symm
  simp only [e'] at this
  exact hc this
set_option maxHeartbeats 800000 in
set_option maxRecDepth 100000 in
theorem at_any (W : World) (v : Value) (l : List Prt) (comp : Int) (h : PRow W v l) (hl : l.length ≤ 1000) :
    Calls Tryz.prog 104 #[v, .int .i64 comp] W fun e W' => e = .returned (.int .i64 (ixI l comp)) ∧ W' = W := by
  have H := hid h
  obtain ⟨a, c, rfl, -⟩ := h
  have hli : (l.length : Int) ≤ 1000 := by omega
  go_enter Tryz.func104, Tryz.ntmps104
  go_wp2_with fail
  go_loopg [5] l.length (fun gh i wr => ∃ k : Nat, k ≤ l.length ∧ gh = l.length - k ∧ i = .int .i64 (k : Int) ∧ Hid (k ≤ ix l comp) ∧ wr = W)
  case atStart => exact ⟨0, Nat.zero_le _, rfl, rfl, Nat.zero_le _, rfl⟩
  case round =>
    obtain ⟨k, hk, rfl, rfl, HK, rfl⟩ := hrel
    by_cases hlt : k < l.length
    · have hki : (k : Int) < (l.length : Int) := by omega
      obtain ⟨p, hp⟩ := at_lt l k hlt
      obtain ⟨b, o, rfl, six⟩ := H.out.at hp
      have d0 := six.c0
      by_cases hc : p.c = comp
      · have E := hid (ix_hit HK.out hp hc)
        have R : Hid (ixI l comp = (k : Int)) := by show _ = _; unfold ixI; rw [E.out, if_pos hlt]
        have q : (p.c == comp) = true := by simp [hc]
        clear hc hp six
        go_wp2_with fail
        go_ret
        exact ⟨by rw [R.out]; rfl, rfl⟩
      · have E := hid (ix_miss HK.out hp hc)
        have q : (p.c == comp) = false := by simp [hc]
        clear hc hp six
        go_wp2_with fail
        go_roundg (l.length - (k + 1))
        case measure => omega
        case rel => exact ⟨k + 1, by omega, rfl, by go_num, E.out, rfl⟩
    · have hki : ¬ ((k : Int) < (l.length : Int)) := by omega
      have R : Hid (ixI l comp = -1) := by
        show _ = _
        unfold ixI
        rw [if_neg (by have := HK.out; omega)]
      go_wp2_with fail
      go_ret
      exact ⟨by rw [R.out]; rfl, rfl⟩
/-- A row with a part more: whether it is in, and what there is so far. -/
def wst (p : Prt) (l : List Prt) : Bool × List Prt := l.foldl (fun s x => if !s.1 && decide (p.c < x.c) then (true, s.2 ++ [p] ++ [x]) else (s.1, s.2 ++ [x])) (false, [])
def insP (l : List Prt) (p : Prt) : List Prt := if (wst p l).1 then (wst p l).2 else (wst p l).2 ++ [p]
theorem wst_next (p : Prt) {l : List Prt} {k : Nat} {x : Prt} (h : l[k]? = some x) : wst p (l.take (k + 1)) = if !(wst p (l.take k)).1 && decide (p.c < x.c) then (true, (wst p (l.take k)).2 ++ [p] ++ [x]) else ((wst p (l.take k)).1, (wst p (l.take k)).2 ++ [x]) := by
  obtain ⟨hl, rfl⟩ := List.getElem?_eq_some_iff.1 h
  unfold wst
  rw [List.take_succ_eq_append_getElem hl, List.foldl_append]
  rfl
theorem wst_len (p : Prt) (l : List Prt) : (wst p l).2.length = l.length + if (wst p l).1 then 1 else 0 := by
  suffices h : ∀ (l : List Prt) (s : Bool × List Prt), (l.foldl (fun s x => if !s.1 && decide (p.c < x.c) then (true, s.2 ++ [p] ++ [x]) else (s.1, s.2 ++ [x])) s).2.length + (if s.1 then 1 else 0) = s.2.length + l.length + if (l.foldl (fun s x => if !s.1 && decide (p.c < x.c) then (true, s.2 ++ [p] ++ [x]) else (s.1, s.2 ++ [x])) s).1 then 1 else 0 by
    have := h l (false, [])
    unfold wst
    simp only [List.length_nil, Bool.false_eq_true, if_false] at this
    omega
  intro l
  induction l with
  | nil => intro s; simp
  | cons x l ih =>
    intro s
    rw [List.foldl_cons]
    have := ih (if !s.1 && decide (p.c < x.c) then (true, s.2 ++ [p] ++ [x]) else (s.1, s.2 ++ [x]))
    obtain ⟨b, o⟩ := s
    cases b <;> by_cases hc : p.c < x.c <;> simp [hc] at this ⊢ <;> omega
end Go.Proofs.YthadfdbkkmmgoaaGreatDoor.Rs
namespace Go.Proofs.YthadfdbkkmmgoaaGreatDoor.Bd
open Go.RowKit Go.Shelf Go.Maps
theorem Tryz.laidOut : laidOutB Tryz.prog = true := by kernel_rfl
theorem Tryz.size24 : 144 < Tryz.prog.types.size := of_decide_eq_true (by kernel_rfl)
theorem Tryz.wide24 : (match Tryz.prog.underlying 144 with | some (.array _ _) | some (.struct _) => true | _ => false) = true := by rw [Tryz.underlying144]
set_option maxRecDepth 100000 in
theorem keyed24 : Keyed Tryz.prog 144 := Keyed.of_law (deep_law_laid Tryz.laidOut (m := 2) (by omega) Tryz.size24 (by kernel_rfl) Tryz.wide24)
/-- An entity, as a value. -/
def entV (i g : Int) : Value := .agg #[.int .i64 i, .int .i64 g]
/-- An entity's key. -/
def kl (i g : Int) : Lit := .string (keyBytes [.int .i64 i, .int .i64 g])
def I64 (i : Int) : Prop := (Lit.int .i64 i).wf = true
theorem kl_key (i g : Int) : WideAt.IsKeyLit (kl i g) := trivial
theorem keyT24 : Tryz.prog.keyType 144 = true := by kernel_rfl
theorem size128 : Tryz.prog.types.size = 365 := by kernel_rfl
theorem keyS24 : ∃ d, Tryz.prog.types.size + 1 = d + 2 := ⟨364, congrArg (· + 1) size128⟩
theorem cells24 : Tryz.prog.cellsOf 144 = 2 := by kernel_rfl
theorem cells3 : Tryz.prog.cellsOf 3 = 1 := by kernel_rfl
theorem lits3 (d : Nat) (i : Int) (hi : I64 i) : Tryz.prog.keyLits (d + 1) 3 [.int .i64 i] = some [.int .i64 i] := by
  unfold Program.keyLits
  rw [Tryz.underlying3]
  exact if_pos ⟨rfl, hi⟩
theorem flat_lits (i g : Int) : [[Lit.int .i64 i], [Lit.int .i64 g]].flatten = [.int .i64 i, .int .i64 g] := rfl
theorem lits24 (d : Nat) (i g : Int) (hi : I64 i) (hg : I64 g) : Tryz.prog.keyLits (d + 2) 144 [.int .i64 i, .int .i64 g] = some [.int .i64 i, .int .i64 g] := by
  unfold Program.keyLits
  rw [Tryz.underlying144]
  refine (if_pos ⟨by rw [cells24]; rfl, by kernel_rfl⟩).trans ?_
  simp only [List.mapM_cons, List.mapM_nil, cells3, List.drop_zero, List.drop_succ_cons, List.take_succ_cons, List.take_zero, lits3 d i hi, lits3 d g hg]
  rfl
theorem key_ent (i g : Int) (hi : I64 i) (hg : I64 g) : keyOf Tryz.prog 144 (entV i g) = some (kl i g) := by
  obtain ⟨d, hd⟩ := keyS24
  unfold keyOf
  rw [Tryz.underlying144, hd]
  have hf : (entV i g).formed Tryz.prog 144 = true := by
    unfold entV Value.formed
    rw [Tryz.underlying144, cells24]
    rfl
  have hc : (entV i g).cells.toList = [.int .i64 i, .int .i64 g] := rfl
  refine (if_pos (by rw [keyT24, hf]; rfl)).trans ?_
  rw [hc, lits24 d i g hi hg]
  rfl
theorem ent_inj {i g i' g' : Int} (h : entV i g = entV i' g') : i = i' ∧ g = g' := by
  unfold entV at h
  simpa using h
theorem kl_inj {i g i' g' : Int} (hi : I64 i) (hg : I64 g) (hi' : I64 i') (hg' : I64 g') (h : kl i g = kl i' g') : i = i' ∧ g = g' :=
  ent_inj (keyed24.inj (key_ent i g hi hg) (h ▸ key_ent i' g' hi' hg'))
theorem I64_small {n : Int} (h0 : 0 ≤ n) (h1 : n ≤ 1000000) : I64 n := by
  unfold I64 Lit.wf
  simp [IntKind.min, IntKind.max, IntKind.signed, IntKind.bits]
  omega
theorem I64_mid {n : Int} (h0 : -1000000 ≤ n) (h1 : n ≤ 2147483648) : I64 n := by
  unfold I64 Lit.wf
  simp [IntKind.min, IntKind.max, IntKind.signed, IntKind.bits]
  omega
theorem keyed3 : Keyed Tryz.prog 3 := int_keyed Tryz.underlying3
theorem zero3 (w : World) : (zeroValue 3).run Tryz.prog w = .ok (.int .i64 0) w := by kernel_rfl
theorem zeroE (w : World) : (zeroValue 144).run Tryz.prog w = .ok (entV 0 0) w := by kernel_rfl
theorem key_int (i : Int) (h : I64 i) : keyOf Tryz.prog 3 (.int .i64 i) = some (.int .i64 i) := keyOf_int_mk Tryz.underlying3 h
theorem isKeyI (i : Int) : WideAt.IsKeyLit (.int .i64 i) := trivial
theorem key_ne {i j : Int} (h : i ≠ j) : (Lit.int .i64 i) ≠ .int .i64 j := fun e => h (by simpa using e)
/-- Numbers with their owners. -/
abbrev Prs := List (Int × Int × Int)
def who (l : Prs) (id : Int) : Option (Int × Int) := (l.find? fun x => x.1 == id).map (·.2)
def num (l : Prs) (e : Int × Int) : Option Int := (l.find? fun x => x.2 == e).map (·.1)
/-- A pair more, by rising numbers. -/
def ins (p : Int × Int × Int) : Prs → Prs
  | [] => [p]
  | x :: l => if p.1 < x.1 then p :: x :: l else x :: ins p l
def del (id : Int) (l : Prs) : Prs := l.filter fun x => !(x.1 == id)
/-- Nobody has two numbers, no number two owners; numbers rise. -/
structure okP (n : Int) (l : Prs) : Prop where
  rise : l.Pairwise (fun x y => x.1 < y.1)
  one : l.Pairwise (fun x y => x.2 ≠ y.2)
  low : ∀ x ∈ l, 1 ≤ x.1 ∧ x.1 < n
  i64 : ∀ x ∈ l, I64 x.2.1 ∧ I64 x.2.2
  next : 1 ≤ n ∧ n ≤ 1073741825
theorem okP.nil : okP 1 [] := ⟨.nil, .nil, fun x hx => by simp at hx, fun x hx => by simp at hx, by omega⟩
theorem mem_ins {p x : Int × Int × Int} : ∀ {l : Prs}, x ∈ ins p l ↔ x = p ∨ x ∈ l
  | [] => by simp [ins]
  | y :: l => by
    unfold ins
    split
    · simp
    · rw [List.mem_cons, mem_ins, List.mem_cons]
      constructor
      · rintro (h | h | h)
        · exact .inr (.inl h)
        · exact .inl h
        · exact .inr (.inr h)
      · rintro (h | h | h)
        · exact .inr (.inl h)
        · exact .inl h
        · exact .inr (.inr h)
theorem ins_len (p : Int × Int × Int) : ∀ l : Prs, (ins p l).length = l.length + 1
  | [] => rfl
  | y :: l => by
    unfold ins
    split
    · simp
    · simp [ins_len p l]
theorem ins_rise {p : Int × Int × Int} : ∀ {l : Prs}, l.Pairwise (fun x y => x.1 < y.1) → (∀ x ∈ l, x.1 ≠ p.1) → (ins p l).Pairwise (fun x y => x.1 < y.1)
  | [], _, _ => by simp [ins]
  | y :: l, h, hn => by
    have h1 := List.pairwise_cons.1 h
    have hy := hn y (List.mem_cons_self ..)
    unfold ins
    split
    · rename_i hlt
      refine List.pairwise_cons.2 ⟨fun x hx => ?_, h⟩
      rcases List.mem_cons.1 hx with rfl | hx
      · exact hlt
      · have := h1.1 x hx; omega
    · rename_i hlt
      refine List.pairwise_cons.2 ⟨fun x hx => ?_, ins_rise h1.2 fun x hx => hn x (List.mem_cons_of_mem _ hx)⟩
      rcases mem_ins.1 hx with rfl | hx
      · omega
      · exact h1.1 x hx
theorem ins_one {p : Int × Int × Int} : ∀ {l : Prs}, l.Pairwise (fun x y => x.2 ≠ y.2) → (∀ x ∈ l, x.2 ≠ p.2) → (ins p l).Pairwise (fun x y => x.2 ≠ y.2)
  | [], _, _ => by simp [ins]
  | y :: l, h, hn => by
    have h1 := List.pairwise_cons.1 h
    have hy := hn y (List.mem_cons_self ..)
    unfold ins
    split
    · refine List.pairwise_cons.2 ⟨fun x hx => ?_, h⟩
      exact fun e => hn x hx e.symm
    · refine List.pairwise_cons.2 ⟨fun x hx => ?_, ins_one h1.2 fun x hx => hn x (List.mem_cons_of_mem _ hx)⟩
      rcases mem_ins.1 hx with rfl | hx
      · exact hy
      · exact h1.1 x hx
theorem find_iff {α : Type} [BEq α] [LawfulBEq α] {l : Prs} (f : Int × Int × Int → α) (hp : l.Pairwise (fun x y => f x ≠ f y)) (a : α) (x : Int × Int × Int) : l.find? (fun y => f y == a) = some x ↔ x ∈ l ∧ f x = a := by
  induction l with
  | nil => simp
  | cons y l ih =>
    have h1 := List.pairwise_cons.1 hp
    rw [List.find?_cons]
    by_cases e : f y = a
    · have : (f y == a) = true := by simpa using e
      rw [this]
      simp only [Option.some.injEq, List.mem_cons]
      constructor
      · rintro rfl; exact ⟨.inl rfl, e⟩
      · rintro ⟨rfl | hx, h2⟩
        · rfl
        · exact absurd (e.trans h2.symm) (h1.1 x hx)
    · have : (f y == a) = false := by simpa using e
      rw [this]
      simp only [List.mem_cons]
      rw [ih h1.2]
      constructor
      · rintro ⟨h2, h3⟩; exact ⟨.inr h2, h3⟩
      · rintro ⟨rfl | hx, h2⟩
        · exact absurd h2 e
        · exact ⟨hx, h2⟩
section
variable {n : Int} {l : Prs}
theorem okP.who (h : okP n l) (id : Int) (e : Int × Int) : Bd.who l id = some e ↔ (id, e) ∈ l := by
  unfold Bd.who
  rw [Option.map_eq_some_iff]
  constructor
  · rintro ⟨x, hx, rfl⟩
    obtain ⟨h1, rfl⟩ := (find_iff (fun x => x.1) (h.rise.imp fun q e => by omega) id x).1 hx
    exact h1
  · intro h1
    exact ⟨(id, e), (find_iff (fun x => x.1) (h.rise.imp fun q e => by omega) id (id, e)).2 ⟨h1, rfl⟩, rfl⟩
theorem okP.num (h : okP n l) (id : Int) (e : Int × Int) : Bd.num l e = some id ↔ (id, e) ∈ l := by
  unfold Bd.num
  rw [Option.map_eq_some_iff]
  constructor
  · rintro ⟨x, hx, rfl⟩
    obtain ⟨h1, rfl⟩ := (find_iff (fun x => x.2) h.one e x).1 hx
    exact h1
  · intro h1
    exact ⟨(id, e), (find_iff (fun x => x.2) h.one e (id, e)).2 ⟨h1, rfl⟩, rfl⟩
theorem okP.add (h : okP n l) {m : Int} (hm : n ≤ m ∧ m ≤ 1073741825) {id i g : Int} (hid : 1 ≤ id ∧ id < m) (hi : I64 i) (hg : I64 g) (h1 : Bd.who l id = none) (h2 : Bd.num l (i, g) = none) : okP m (ins (id, i, g) l) where
  rise := ins_rise h.rise fun x hx e => by
    have e : x.1 = id := e
    have := (h.who id x.2).2 (by rw [← e]; exact hx)
    rw [h1] at this
    cases this
  one := ins_one h.one fun x hx e => by
    have := (h.num x.1 (i, g)).2 (by have : x.2 = (i, g) := e; rw [← this]; exact hx)
    rw [h2] at this
    cases this
  low := fun x hx => by
    rcases mem_ins.1 hx with rfl | hx
    · exact hid
    · have := h.low x hx; omega
  i64 := fun x hx => by
    rcases mem_ins.1 hx with rfl | hx
    · exact ⟨hi, hg⟩
    · exact h.i64 x hx
  next := by have := h.next; omega
theorem okP.del (h : okP n l) (id : Int) : okP n (Bd.del id l) where
  rise := h.rise.filter _
  one := h.one.filter _
  low := fun x hx => h.low x (List.mem_filter.1 hx).1
  i64 := fun x hx => h.i64 x (List.mem_filter.1 hx).1
  next := h.next
theorem okP.turn (h : okP n l) {m : Int} (hm : 1 ≤ m ∧ m ≤ 1073741825) (ha : ∀ x ∈ l, x.1 < m) : okP m l := ⟨h.rise, h.one, fun x hx => ⟨(h.low x hx).1, ha x hx⟩, h.i64, hm⟩
theorem mem_del {id : Int} {x : Int × Int × Int} : x ∈ Bd.del id l ↔ x ∈ l ∧ x.1 ≠ id := by
  unfold Bd.del
  rw [List.mem_filter]
  simp
theorem opt_ext {α : Type} {a b : Option α} (h : ∀ x, a = some x ↔ b = some x) : a = b := by
  cases a with
  | none =>
    cases b with
    | none => rfl
    | some y => exact absurd ((h y).2 rfl) (by simp)
  | some x => exact ((h x).1 rfl).symm
theorem okP.who_add (h : okP n l) {m id i g : Int} (hk : okP m (ins (id, i, g) l)) (h1 : Bd.who l id = none) (id' : Int) : Bd.who (ins (id, i, g) l) id' = if id' = id then some (i, g) else Bd.who l id' := by
  refine opt_ext fun x => ?_
  rw [hk.who, mem_ins]
  by_cases e : id' = id
  · subst e
    rw [if_pos rfl]
    constructor
    · rintro (h2 | h2)
      · simp only [Prod.mk.injEq, true_and] at h2
        rw [h2]
      · have := (h.who id' x).2 h2
        rw [h1] at this
        cases this
    · intro h2
      obtain rfl : (i, g) = x := by simpa using h2
      exact .inl rfl
  · rw [if_neg e, h.who]
    constructor
    · rintro (h2 | h2)
      · simp only [Prod.mk.injEq] at h2
        exact absurd h2.1 e
      · exact h2
    · exact .inr
theorem okP.num_add (h : okP n l) {m id i g : Int} (hk : okP m (ins (id, i, g) l)) (h1 : Bd.num l (i, g) = none) (e' : Int × Int) : Bd.num (ins (id, i, g) l) e' = if e' = (i, g) then some id else Bd.num l e' := by
  refine opt_ext fun x => ?_
  rw [hk.num, mem_ins]
  by_cases e : e' = (i, g)
  · subst e
    rw [if_pos rfl]
    constructor
    · rintro (h2 | h2)
      · simp only [Prod.mk.injEq, and_true] at h2
        rw [h2]
      · have := (h.num x (i, g)).2 h2
        rw [h1] at this
        cases this
    · intro h2
      obtain rfl : id = x := by simpa using h2
      exact .inl rfl
  · rw [if_neg e, h.num]
    constructor
    · rintro (h2 | h2)
      · simp only [Prod.mk.injEq] at h2
        exact absurd h2.2 e
      · exact h2
    · exact .inr
theorem okP.who_del (h : okP n l) (id id' : Int) : Bd.who (Bd.del id l) id' = if id' = id then none else Bd.who l id' := by
  refine opt_ext fun x => ?_
  rw [(h.del id).who, mem_del]
  by_cases e : id' = id
  · rw [if_pos e]
    simp [e]
  · rw [if_neg e, h.who]
    simp [e]
theorem okP.num_del (h : okP n l) {id : Int} {e : Int × Int} (hw : Bd.who l id = some e) (e' : Int × Int) : Bd.num (Bd.del id l) e' = if e' = e then none else Bd.num l e' := by
  have hm := (h.who id e).1 hw
  refine opt_ext fun x => ?_
  rw [(h.del id).num, mem_del]
  by_cases q : e' = e
  · rw [if_pos q]
    subst q
    constructor
    · rintro ⟨h1, h2⟩
      have e1 := (h.num x e').2 h1
      have e2 := (h.num id e').2 hm
      rw [e1] at e2
      exact absurd (by simpa using e2) h2
    · intro h1; cases h1
  · rw [if_neg q, h.num]
    constructor
    · exact fun h1 => h1.1
    · intro h1
      refine ⟨h1, fun h2 => q ?_⟩
      have h2 : x = id := h2
      subst h2
      have e1 := (h.who x e').2 h1
      rw [hw] at e1
      simpa using e1.symm
theorem del_len (h : okP n l) {id : Int} {e : Int × Int} (hw : Bd.who l id = some e) : (Bd.del id l).length + 1 = l.length := by
  have hm := (h.who id e).1 hw
  have hp := h.rise
  clear hw h
  induction l with
  | nil => simp at hm
  | cons y l ih =>
    have h1 := List.pairwise_cons.1 hp
    unfold Bd.del
    rcases List.mem_cons.1 hm with rfl | hm
    · have : l.filter (fun x => !(x.1 == id)) = l := List.filter_eq_self.2 fun x hx => by
        have := h1.1 x hx
        simp
        omega
      simp [this]
    · have := h1.1 _ hm
      have i2 := ih hm h1.2
      unfold Bd.del at i2
      have this : y.1 < id := this
      have e1 : (!(y.1 == id)) = true := by simp; omega
      simp only [List.filter_cons, e1, if_true, List.length_cons]
      omega
theorem okP.few (h : okP n l) : l.length ≤ 1073741824 := by
  have hn := h.next
  have hnd : (l.map fun x => x.1.toNat).Nodup := by
    rw [List.Nodup, List.pairwise_map]
    refine List.Pairwise.imp_of_mem (fun {x y} hx hy q e => ?_) h.rise
    have := (h.low x hx).1
    omega
  have := hnd.length_le_of_subset (l₂ := List.range' 1 1073741824) fun x hx => by
    obtain ⟨y, hy, rfl⟩ := List.mem_map.1 hx
    have := h.low y hy
    rw [List.mem_range'_1]
    omega
  simpa using this
end
end Go.Proofs.YthadfdbkkmmgoaaGreatDoor.Bd
namespace Go.Proofs.YthadfdbkkmmgoaaGreatDoor.Co
open Go.RowKit Go.Shelf Go.Maps
theorem Tryz.laidOut : laidOutB Tryz.prog = true := by kernel_rfl
theorem keyed3 : Keyed Tryz.prog 3 := int_keyed Tryz.underlying3
theorem zero3 (w : World) : (zeroValue 3).run Tryz.prog w = .ok (.int .i64 0) w := by kernel_rfl
def I64 (i : Int) : Prop := (Lit.int .i64 i).wf = true
theorem key_int (i : Int) (h : I64 i) : keyOf Tryz.prog 3 (.int .i64 i) = some (.int .i64 i) := keyOf_int_mk Tryz.underlying3 h
theorem I64_mid {n : Int} (h0 : -1000000 ≤ n) (h1 : n ≤ 1000000) : I64 n := by
  unfold I64 Lit.wf
  simp [IntKind.min, IntKind.max, IntKind.signed, IntKind.bits]
  omega
def vI (n : Int) : Value := .int .i64 n
/-- A part: its four cells, its frame. -/
structure Pt where
  a : Int
  b : Int
  c : Int
  d : Int
  t : Int
def Pt.cs (p : Pt) : List Int := [p.a, p.b, p.c, p.d]
/-- The cells that a row of the width w keeps. -/
def Pt.row (w : Nat) (p : Pt) : List Value := (p.cs.take w).map vI
/-- Behind the width all is 0. -/
def Pt.fitB (w : Nat) (p : Pt) : Bool := (p.cs.drop w).all (· == 0)
def Pt.val (comp : Int) (p : Pt) : Value := .agg #[.int .i64 comp, .int .i64 p.a, .int .i64 p.b, .int .i64 p.c, .int .i64 p.d, .int .i64 p.t]
def Pt.arr (comp : Int) (p : Pt) : Array Value := #[.int .i64 comp, .int .i64 p.a, .int .i64 p.b, .int .i64 p.c, .int .i64 p.d, .int .i64 p.t]
/-- A cell is another one, and the frame. -/
def Pt.put (p : Pt) (j : Nat) (x f : Int) : Pt := match j with
  | 0 => ⟨x, p.b, p.c, p.d, f⟩
  | 1 => ⟨p.a, x, p.c, p.d, f⟩
  | 2 => ⟨p.a, p.b, x, p.d, f⟩
  | _ => ⟨p.a, p.b, p.c, x, f⟩
theorem Pt.row_len {w : Nat} (p : Pt) (h : w ≤ 4) : (p.row w).length = w := by simp [Pt.row, Pt.cs]; omega
theorem four {w : Nat} (h0 : 1 ≤ w) (h : w ≤ 4) : w = 1 ∨ w = 2 ∨ w = 3 ∨ w = 4 := by omega
theorem Pt.put_row {w : Nat} (p : Pt) (h : w ≤ 4) {j : Nat} (hj : j < w) (x f : Int) : (p.put j x f).row w = (p.row w).set j (vI x) := by
  rcases four (by omega) h with rfl | rfl | rfl | rfl
  all_goals (match j, hj with
    | 0, _ => rfl
    | 1, _ => rfl
    | 2, _ => rfl
    | 3, _ => rfl)
theorem Pt.put_fit {w : Nat} (p : Pt) (h : w ≤ 4) {j : Nat} (hj : j < w) (x f : Int) : (p.put j x f).fitB w = p.fitB w := by
  rcases four (by omega) h with rfl | rfl | rfl | rfl
  all_goals (match j, hj with
    | 0, _ => first | rfl | omega
    | 1, _ => first | rfl | omega
    | 2, _ => first | rfl | omega
    | 3, _ => first | rfl | omega)
theorem Pt.put_t (p : Pt) (j : Nat) (x f : Int) : (p.put j x f).t = f := by
  unfold Pt.put; split <;> rfl
/-- A part that is nothing but its frame takes a row's cells in. -/
theorem Pt.filled {w : Nat} (p : Pt) (h0 : 1 ≤ w) (h : w ≤ 4) (hf : p.fitB w = true) (comp : Int) :
    ((#[.int .i64 comp, .int .i64 0, .int .i64 0, .int .i64 0, .int .i64 0, .int .i64 p.t] : Array Value).toList.take 1 ++ p.row w ++ (#[.int .i64 comp, .int .i64 0, .int .i64 0, .int .i64 0, .int .i64 0, .int .i64 p.t] : Array Value).toList.drop (1 + (p.row w).length)).toArray = p.arr comp := by
  obtain ⟨a, b, c, d, t⟩ := p
  rcases four h0 h with rfl | rfl | rfl | rfl
  all_goals
    simp [Pt.fitB, Pt.cs] at hf
    simp [Pt.row, Pt.cs, Pt.arr, vI, hf]
/-- Rows, close together. -/
def flat (w : Nat) (l : List Pt) : List Value := l.flatMap (Pt.row w)
theorem flat_snoc (w : Nat) (l : List Pt) (p : Pt) : flat w (l ++ [p]) = flat w l ++ p.row w := by simp [flat]
theorem flat_cons (w : Nat) (l : List Pt) (p : Pt) : flat w (p :: l) = p.row w ++ flat w l := by simp [flat]
theorem flat_len {w : Nat} (h : w ≤ 4) (l : List Pt) : (flat w l).length = l.length * w := by
  induction l with
  | nil => simp [flat]
  | cons p l ih => rw [flat_cons, List.length_append, ih, p.row_len h, List.length_cons, Nat.succ_mul]; omega
theorem flat_take {w : Nat} (h : w ≤ 4) (l : List Pt) (m : Nat) (hm : m ≤ l.length) : (flat w l).take (m * w) = flat w (l.take m) := by
  induction l generalizing m with
  | nil => simp at hm; subst hm; simp [flat]
  | cons p l ih =>
    cases m with
    | zero => simp [flat]
    | succ m =>
      rw [List.take_succ_cons, flat_cons, flat_cons, Nat.succ_mul, show m * w + w = (p.row w).length + m * w by rw [p.row_len h]; omega, List.take_length_add_append, ih m (by simpa using hm)]
theorem flat_drop {w : Nat} (h : w ≤ 4) (l : List Pt) (m : Nat) (hm : m ≤ l.length) : (flat w l).drop (m * w) = flat w (l.drop m) := by
  induction l generalizing m with
  | nil => simp at hm; subst hm; simp [flat]
  | cons p l ih =>
    cases m with
    | zero => simp [flat]
    | succ m =>
      rw [List.drop_succ_cons, flat_cons, Nat.succ_mul, show m * w + w = (p.row w).length + m * w by rw [p.row_len h]; omega, List.drop_length_add_append, ih m (by simpa using hm)]
theorem flat_at {w : Nat} (h : w ≤ 4) {l : List Pt} {n : Nat} {p : Pt} (hn : l[n]? = some p) {j : Nat} (hj : j < w) : (flat w l)[n * w + j]? = (p.row w)[j]? := by
  obtain ⟨hl, rfl⟩ := List.getElem?_eq_some_iff.1 hn
  have e := flat_drop h l n (by omega)
  rw [← List.getElem?_drop, e, List.drop_eq_getElem_cons hl, flat_cons, List.getElem?_append_left (by rw [Pt.row_len _ h]; exact hj)]
theorem flat_splice {w : Nat} (h : w ≤ 4) {l : List Pt} {n : Nat} (hn : n < l.length) (p : Pt) : (flat w l).take (n * w) ++ p.row w ++ (flat w l).drop (n * w + w) = flat w (l.set n p) := by
  rw [flat_take h l n (by omega), show n * w + w = (n + 1) * w by rw [Nat.succ_mul], flat_drop h l (n + 1) (by omega), ← flat_snoc, List.set_eq_take_append_cons_drop, if_pos hn]
  simp [flat]
theorem flat_set {w : Nat} (h : w ≤ 4) {l : List Pt} {n : Nat} {p : Pt} (hn : l[n]? = some p) {j : Nat} (hj : j < w) (x f : Int) : (flat w l).set (n * w + j) (vI x) = flat w (l.set n (p.put j x f)) := by
  have hl := (List.getElem?_eq_some_iff.1 hn).1
  rw [← flat_splice h hl, Pt.put_row p h hj]
  apply List.ext_getElem?
  intro m
  have hlen := flat_len h l
  have hnl : n * w + w ≤ l.length * w := by rw [← Nat.succ_mul]; exact Nat.mul_le_mul_right w hl
  have hr := p.row_len h
  rw [List.getElem?_set]
  by_cases h1 : m < n * w
  · rw [if_neg (by omega), List.getElem?_append_left (by simp; omega), List.getElem?_append_left (by simp; omega), List.getElem?_take_of_lt h1]
  · by_cases h2 : m < n * w + w
    · rw [List.getElem?_append_left (by simp; omega), List.getElem?_append_right (by simp; omega)]
      have e : m - ((flat w l).take (n * w)).length = m - n * w := by simp; omega
      rw [e, List.getElem?_set]
      by_cases h3 : n * w + j = m
      · rw [if_pos h3, if_pos (by omega), if_pos (by omega), if_pos (by omega)]
      · rw [if_neg h3, if_neg (by omega)]
        have := flat_at h hn (j := m - n * w) (by omega)
        rw [show n * w + (m - n * w) = m by omega] at this
        exact this
    · rw [if_neg (by omega), List.getElem?_append_right (by simp; omega)]
      have e : m - ((flat w l).take (n * w) ++ (p.row w).set j (vI x)).length = m - (n * w + w) := by simp; omega
      rw [e, List.getElem?_drop, show n * w + w + (m - (n * w + w)) = m by omega]
theorem row_one (w : Nat) (p : Pt) : ∀ u ∈ p.row w, u.oneCell' = true := by
  intro u hu
  simp only [Pt.row, List.mem_map] at hu
  obtain ⟨x, _, rfl⟩ := hu
  rfl
theorem flat_one (w : Nat) (l : List Pt) : ∀ u ∈ flat w l, u.oneCell' = true := by
  intro u hu
  simp only [flat, List.mem_flatMap] at hu
  obtain ⟨p, _, hp⟩ := hu
  exact row_one w p u hp
/-- The row of a number, if there is one. -/
def rowAt (l : List Pt) (i : Int) : Option Pt := if 0 ≤ i then l[i.toNat]? else none
theorem rowAt_nat (l : List Pt) (n : Nat) : rowAt l (n : Int) = l[n]? := by simp [rowAt]
theorem rowAt_some {l : List Pt} {i : Int} {p : Pt} (h : rowAt l i = some p) : ∃ n : Nat, i = (n : Int) ∧ n < l.length ∧ l[n]? = some p := by
  unfold rowAt at h
  split at h
  · exact ⟨i.toNat, by omega, (List.getElem?_eq_some_iff.1 h).1, h⟩
  · cases h
theorem rowAt_none {l : List Pt} {i : Int} (h : rowAt l i = none) : i < 0 ∨ (l.length : Int) ≤ i := by
  unfold rowAt at h
  split at h
  · right
    have := List.getElem?_eq_none_iff.1 h
    omega
  · left; omega
def tickAt (l : List Pt) (i : Int) : Int := match rowAt l i with | some p => p.t | none => 0
/-- What the map of the frames says. -/
def Holds (D : DataW Unit) (l : List Pt) : Prop :=
  (∀ i, I64 i → Maps.has D (.int .i64 i) = (rowAt l i).isSome ∧ D.atKey (.int .i64 i) (.lit (.int .i64 0)) = .lit (.int .i64 (tickAt l i))) ∧ Maps.size D = l.length
theorem isKeyI (i : Int) : WideAt.IsKeyLit (.int .i64 i) := trivial
theorem key_ne {i j : Int} (h : i ≠ j) : (Lit.int .i64 i) ≠ .int .i64 j := fun e => h (by simpa using e)
theorem rowAt_snoc (l : List Pt) (p : Pt) (i : Int) : rowAt (l ++ [p]) i = if i = (l.length : Int) then some p else rowAt l i := by
  unfold rowAt
  by_cases h0 : 0 ≤ i
  · rw [if_pos h0, if_pos h0]
    by_cases h1 : i = (l.length : Int)
    · rw [if_pos h1]; subst h1; simp
    · rw [if_neg h1, List.getElem?_append]
      split
      · rfl
      · rename_i h2
        rw [List.getElem?_eq_none (by simp; omega), List.getElem?_eq_none (by omega)]
  · rw [if_neg h0, if_neg h0, if_neg (by omega)]
theorem rowAt_set (l : List Pt) (n : Nat) (p : Pt) (h : n < l.length) (i : Int) : rowAt (l.set n p) i = if i = (n : Int) then some p else rowAt l i := by
  unfold rowAt
  by_cases h0 : 0 ≤ i
  · rw [if_pos h0, if_pos h0]
    by_cases h1 : i = (n : Int)
    · rw [if_pos h1]; subst h1; simp [h]
    · rw [if_neg h1, List.getElem?_set_ne (by omega)]
  · rw [if_neg h0, if_neg h0, if_neg (by omega)]
theorem rowAt_drop (l : List Pt) (i : Int) : rowAt l.dropLast i = if i = (l.length : Int) - 1 then none else rowAt l i := by
  unfold rowAt
  by_cases h0 : 0 ≤ i
  · rw [if_pos h0, if_pos h0]
    by_cases h1 : i = (l.length : Int) - 1
    · rw [if_pos h1]; exact List.getElem?_eq_none (by simp; omega)
    · rw [if_neg h1, List.getElem?_dropLast]
      split
      · rfl
      · exact (List.getElem?_eq_none (by omega)).symm
  · rw [if_neg h0, if_neg h0]; split <;> rfl
theorem Holds.snoc {D : DataW Unit} {l : List Pt} (hD : Tidy D) (h : Holds D l) (p : Pt) (hn : I64 (l.length : Int)) : Holds (D.put (.int .i64 (l.length : Int)) (.lit (.int .i64 p.t))) (l ++ [p]) := by
  refine ⟨fun i hi => ?_, ?_⟩
  · unfold tickAt
    rw [rowAt_snoc]
    by_cases e : i = (l.length : Int)
    · subst e
      rw [if_pos rfl]
      exact ⟨Maps.has_put_same hD.isMap (isKeyI _) _, Maps.atKey_put_same hD.isMap (isKeyI _) _ _⟩
    · rw [if_neg e, Maps.has_put_other (key_ne e), Maps.atKey_put_other (key_ne e)]
      exact h.1 i hi
  · rw [Maps.size_put hD, (h.1 _ hn).1, rowAt_nat, h.2]
    simp
theorem Holds.set {D : DataW Unit} {l : List Pt} (hD : Tidy D) (h : Holds D l) {n : Nat} (hl : n < l.length) (p : Pt) (hn : I64 (n : Int)) : Holds (D.put (.int .i64 (n : Int)) (.lit (.int .i64 p.t))) (l.set n p) := by
  refine ⟨fun i hi => ?_, ?_⟩
  · unfold tickAt
    rw [rowAt_set l n p hl]
    by_cases e : i = (n : Int)
    · subst e
      rw [if_pos rfl]
      exact ⟨Maps.has_put_same hD.isMap (isKeyI _) _, Maps.atKey_put_same hD.isMap (isKeyI _) _ _⟩
    · rw [if_neg e, Maps.has_put_other (key_ne e), Maps.atKey_put_other (key_ne e)]
      exact h.1 i hi
  · rw [Maps.size_put hD, (h.1 _ hn).1, rowAt_nat, h.2, List.getElem?_eq_getElem hl]
    simp
theorem Holds.drop {D : DataW Unit} {l : List Pt} (hD : Tidy D) (h : Holds D l) (h0 : 0 < l.length) (hn : I64 ((l.length : Int) - 1)) : Holds (D.del (.int .i64 ((l.length : Int) - 1))) l.dropLast := by
  refine ⟨fun i hi => ?_, ?_⟩
  · unfold tickAt
    rw [rowAt_drop]
    by_cases e : i = (l.length : Int) - 1
    · subst e
      rw [if_pos rfl]
      exact ⟨Maps.has_del_same, Maps.atKey_del_same _⟩
    · rw [if_neg e, Maps.has_del_other (key_ne e), Maps.atKey_del_other (key_ne e)]
      exact h.1 i hi
  · have := Maps.size_del (k := .int .i64 ((l.length : Int) - 1)) hD
    have e : rowAt l ((l.length : Int) - 1) = l[l.length - 1]? := by
      rw [← rowAt_nat]; congr 1; omega
    rw [(h.1 _ hn).1, e, List.getElem?_eq_getElem (by omega), h.2] at this
    simp at this ⊢
    omega
/-- A map bears no more than what it reads as. -/
theorem own_size {W : World} {mb n : Nat} {D : DataW Unit} (h : W.ownsMap Tryz.prog 3 (plainElem Tryz.prog 3) mb n D) {m : Nat} (hm : Maps.size D = m) : W.ownsMap Tryz.prog 3 (plainElem Tryz.prog 3) mb m D := by
  obtain ⟨es, clock, hb, F, _, rfl⟩ := h
  refine ⟨es, clock, hb, F, ?_, rfl⟩
  rw [← hm]
  simp [Maps.size, length_sorted]
theorem look_two {W : World} {mb n : Nat} {D : DataW Unit} {l : List Pt} (h : W.ownsMap Tryz.prog 3 (plainElem Tryz.prog 3) mb n D) (hH : Holds D l) (i : Int) (hi : I64 i) :
    (Instr.lookup 272 (.map (some mb)) (.int .i64 i) true).run Tryz.prog W = .ok (.tuple #[.int .i64 (tickAt l i), .bool (rowAt l i).isSome]) W := by
  obtain ⟨v, ps, hr, hv⟩ := h.look_ok keyed3 Tryz.underlying272 (zero3 W) (plainElem_int Tryz.underlying3 (by decide)) (key_int i hi)
  obtain ⟨a, rfl, e, _⟩ := plainElem_int_inv Tryz.underlying3 hv
  rw [(hH.1 i hi).2] at e
  simp only [Prod.mk.injEq, DataW.lit.injEq, Lit.int.injEq, true_and] at e
  rw [hr, (hH.1 i hi).1, e.1]
theorem look_one {W : World} {mb n : Nat} {D : DataW Unit} {l : List Pt} (h : W.ownsMap Tryz.prog 3 (plainElem Tryz.prog 3) mb n D) (hH : Holds D l) (i : Int) (hi : I64 i) :
    (Instr.lookup 272 (.map (some mb)) (.int .i64 i) false).run Tryz.prog W = .ok (.int .i64 (tickAt l i)) W := by
  obtain ⟨c, hr, e, _⟩ := h.lookup_int keyed3 Tryz.underlying272 Tryz.underlying3 (zero3 W) (key_int i hi)
  rw [(hH.1 i hi).2] at e
  simp only [DataW.lit.injEq, Lit.int.injEq, true_and] at e
  rw [hr, e]
end Go.Proofs.YthadfdbkkmmgoaaGreatDoor.Co
namespace Go.Proofs.YthadfdbkkmmgoaaGreatDoor.Or
open Go.RowKit Go.Shelf Go.Maps
open Go.Proofs.YthadfdbkkmmgoaaGreatDoor.At (St bAl cell_blk blk_seen blk_free)
/-- A command. -/
structure Od where
  k : Int
  id : Int
  m : Nat
  c : Int
def Od.arr (p : Od) : Array Value := #[.int .i64 p.k, .int .i64 p.id, .int .u32 (p.m : Int), .int .i64 p.c]
def Od.val (p : Od) : Value := .agg #[.int .i64 p.k, .int .i64 p.id, .int .u32 (p.m : Int), .int .i64 p.c]
/-- Numbers as they can be. -/
structure Od.ok (p : Od) : Prop where
  id : Bd.I64 p.id
  c : Co.I64 p.c
  m : p.m < 4294967296
def oCells (l : List Od) : List Value := l.flatMap fun p => p.arr.toList
theorem oCells_snoc (l : List Od) (p : Od) : oCells (l ++ [p]) = oCells l ++ p.arr.toList := by simp [oCells]
theorem oCells_at : ∀ (l : List Od) (j : Nat) (p : Od), l[j]? = some p → ∀ i, i < 4 → (oCells l)[j * 4 + i]? = p.arr[i]? := by
  intro l
  induction l with
  | nil => intro j p h; simp at h
  | cons x l ih =>
    intro j p h i hi
    have e : oCells (x :: l) = x.arr.toList ++ oCells l := by simp [oCells]
    rw [e]
    cases j with
    | zero =>
      simp at h
      subst h
      rw [List.getElem?_append_left (by simp [Od.arr]; omega)]
      simp
    | succ j =>
      have h2 := ih j p (by simpa using h) i hi
      rw [List.getElem?_append_right (by simp [Od.arr]; omega), ← h2]
      congr 1
      simp [Od.arr]
      omega
theorem oCells_len (l : List Od) : (oCells l).length = l.length * 4 := by
  induction l with
  | nil => rfl
  | cons x l ih => rw [oCells, List.flatMap_cons, List.length_append]; unfold oCells at ih; rw [ih, List.length_cons]; simp [Od.arr]; omega
theorem infoOrd : (Tryz.prog.info? 48).map (fun i => (i.zero, i.size, i.bytes)) = some (some (.agg #[.int .i64 0, .int .i64 0, .int .u32 0, .int .i64 0]), 4, 32) := by kernel_rfl
/-- A row of commands that is owned. -/
def Ods (B : Nat) (W : World) (v : Value) (l : List Od) : Prop := W.ownsRow B 48 4 v l.length (oCells l)
section
variable {B B' : Nat} {W W' : World} {v : Value} {l : List Od}
theorem Ods.slice (h : Ods B W v l) : ∃ a c, v = .slice a l.length c := own_slice h
theorem Ods.kept {T : Nat → Prop} (h : Ods B W v l) (hs : St T W W') (hn : ∀ x, v.ownBlock = some x → ¬ T x) : Ods B W' v l := by
  refine ⟨h.1, h.2.elim .inl fun ⟨g, cap, cur, h1, h2, h3, h4⟩ => .inr ⟨g, cap, cur, h1, h2, ?_, h4⟩⟩
  exact hs.at h3 (hn g (by rw [h1]; rfl))
theorem Ods.later (h : Ods B W v l) (hb : Below W.heap.size W W') : Ods B W' v l := h.kept (T := fun _ => False) (St.of_below hb) fun _ _ q => q
theorem Ods.lt (h : Ods B W v l) (k : Nat) (hk : v.ownBlock = some k) : B ≤ k ∧ k < W.heap.size := World.ownsRow.lt h k hk
theorem Ods.lower (h : Ods B W v l) (hB : B' ≤ B) : Ods B' W v l :=
  ⟨h.1, h.2.elim .inl fun ⟨g, cap, cur, h1, h2, h3⟩ => .inr ⟨g, cap, cur, h1, by omega, h3⟩⟩
/-- The four cells of a command. -/
structure Fou (W : World) (b o : Nat) (p : Od) : Prop where
  c0 : W.cell? ⟨b, o, none⟩ = some (.int .i64 p.k)
  c1 : W.cell? ⟨b, o + 1, none⟩ = some (.int .i64 p.id)
  c2 : W.cell? ⟨b, o + 2, none⟩ = some (.int .u32 (p.m : Int))
  c3 : W.cell? ⟨b, o + 3, none⟩ = some (.int .i64 p.c)
theorem Fou.later {b o : Nat} {p : Od} (h : Fou W b o p) (hb : Below W.heap.size W W') : Fou W' b o p :=
  ⟨At.seen hb (Nat.le_refl _) h.c0, At.seen hb (Nat.le_refl _) h.c1, At.seen hb (Nat.le_refl _) h.c2, At.seen hb (Nat.le_refl _) h.c3⟩
theorem fou_blk {b : Nat} {p : Od} {e : TypeId} (h : W.heap[b]? = some (.cells p.arr e (0, 0))) : Fou W b 0 p :=
  ⟨cell_blk h rfl, cell_blk h rfl, cell_blk h rfl, cell_blk h rfl⟩
theorem Ods.at {a : Option Addr} {n c : Nat} (h : Ods B W (.slice a n c) l) {j : Nat} {p : Od} (hj : l[j]? = some p) : ∃ g, a = some ⟨g, 0, none⟩ ∧ Fou W g (j * 4) p := by
  have hlt := (List.getElem?_eq_some_iff.1 hj).1
  obtain ⟨g, cap', e, h1, h2⟩ := World.ownsRow.form h (by omega)
  have e' : a = some ⟨g, 0, none⟩ ∧ n = l.length ∧ c = cap' := by simpa using e
  obtain ⟨rfl, rfl, rfl⟩ := e'
  have A := oCells_at l j p hj
  have C : ∀ i, i < 4 → W.cell? ⟨g, j * 4 + i, none⟩ = p.arr[i]? := fun i hi => (World.ownsRow.cellAt h (j * 4 + i) (by omega)).trans (A i hi)
  exact ⟨g, rfl, C 0 (by decide), C 1 (by decide), C 2 (by decide), C 3 (by decide)⟩
theorem ods_none (W : World) : Ods W.heap.size (W.alloc (.cells #[] 48)) (.slice (some ⟨W.heap.size, 0, none⟩) 0 0) [] :=
  World.ownsRow_lit (base := W.heap.size) (e := 48) (size := 4) W #[] 0 (Nat.le_refl _) (Nat.zero_le _) rfl
theorem ods_nil (B : Nat) (W : World) : Ods B W (.slice none 0 0) [] := World.ownsRow_nil _ _ _ _
end
/-- append of one command. -/
theorem wpList_ord {ops : Array Oper} {rest : List Oper} {o : Oper} {a : Act} {Q : Exit → Act → World → Prop} (hgd : o.guard = none) (s x : Operand)
    (ho : o.op = .call { callee := .builtin .append, args := #[s, x], argTypes := #[60, 60] }) {B : Nat} {wc : World} {v : Value} {l : List Od} {p : Od} (hown : Ods B wc v l) (hl : l.length ≤ 1000) (hB : B ≤ wc.heap.size)
    (hs : a.eval s = v) (hx : a.eval x = .slice (some ⟨wc.heap.size, 0, none⟩) 1 1)
    (h : ∀ g cap w2, Hid (Ods B w2 (.slice (some ⟨g, 0, none⟩) (l.length + 1) cap) (l ++ [p])) → Hid (St (fun x => v.ownBlock = some x) wc w2) → Hid (v.ownBlock = some g ∨ wc.heap.size ≤ g) → wpList Tryz.prog ops Q rest (a.put o.dst (.slice (some ⟨g, 0, none⟩) (l.length + 1) cap)) w2) :
    wpList Tryz.prog ops Q (o :: rest) a (wc.alloc (.cells #[.int .i64 p.k, .int .i64 p.id, .int .u32 (p.m : Int), .int .i64 p.c] 48)) := by
  obtain ⟨i0, hi, hz0, hz1, hz2⟩ := info_parts infoOrd
  have hb := bAl wc (.cells p.arr 48)
  have ho2 : (wc.alloc (.cells p.arr 48)).ownsRow B 48 4 v l.length (oCells l) := World.ownsRow.alloc hown _
  have hh := heap_alloc_new wc (.cells p.arr 48)
  refine wpList_append_lies _ hgd s x 60 ho B 48 i0 (.agg #[.int .i64 0, .int .i64 0, .int .u32 0, .int .i64 0]) 4 32 Tryz.underlying60 hi hz0 hz1 hz2 rfl (by decide) v l.length (oCells l) hs ho2 ⟨wc.heap.size, 0, none⟩ 1 1 p.arr.toList hx rfl (fun j u hu => by
    rw [add_at]
    exact cell_blk hh (by simpa using hu)) (by intro u hu; simp [Od.arr] at hu; rcases hu with rfl | rfl | rfl | rfl <;> rfl) (by decide) (by unfold maxLen; omega) (by omega) (by simp; omega) (wc.heap.size + 1) (by simp) ?_
  intro g' cap w2 ow hg hat hlt
  refine h g' cap w2 ?_ ((St.of_below hb).trans (St.of_grown (S := fun x => v.ownBlock = some x) hg fun k e => e) fun _ _ q => q) ?_
  · show World.ownsRow _ _ _ _ _ _ _
    rw [oCells_snoc, List.length_append]
    exact ow
  · rcases hat with e | e
    · exact .inl e
    · exact .inr (by omega)
end Go.Proofs.YthadfdbkkmmgoaaGreatDoor.Or
