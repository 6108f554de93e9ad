/- Texts in one. -/
import Derived.Deep.RegionLaw
import Derived.Deep.AppendLies
import Derived.Laws.MakeOwn
import Derived.ProofKit
import Derived.OpenShut
import Derived.Deep.Grids
import Derived.BigQuiet
import Derived.Laws.StructEq
import Derived.Deep.RegionHeld3
import Derived.Test.YtoafpfheopgdkaaGreatDoorMac
namespace Go.Proofs.YtoafpfheopgdkaaGreatDoor.Ro
open Go.RowKit Go.Shelf Go.Maps
theorem infoInt : (Tryz.prog.info? 3).map (fun i => (i.zero, i.size, i.bytes)) = some (some (.int .i64 0), 1, 8) := by kernel_rfl
/-- What an append onto the row of the free ones leaves. -/
structure Grew (B : Nat) (fv : Value) (l : List Nat) (wc : World) (fv' : Value) (w2 : World) : Prop where
  own : w2.ownsRow B 3 1 fv' l.length (l.map gI)
  st : St (fun x => fv.ownBlock = some x) wc w2
  at' : fv'.ownBlock = fv.ownBlock ∨ ∃ x, fv'.ownBlock = some x ∧ wc.heap.size ≤ x
theorem step_free {ops : Array Oper} {o : Oper} {a : Act} {K : Act → World → Prop} {Q : Exit → Act → World → Prop} {E : Prop} (hgd : o.guard = none) (s x : Operand)
    (ho : o.op = .call { callee := .builtin .append, args := #[s, x], argTypes := #[32, 32] }) {B rb : Nat} {wc : World} {fv : Value} {f : List Nat} {k : Nat} (hown : wc.ownsRow B 3 1 fv f.length (f.map gI)) (hl : f.length ≤ 1000) (hB : B ≤ wc.heap.size)
    {cs : Array Value} (hbox : wc.heap[rb]? = some (.cells cs 150 (0, 0))) (hcs : cs[1]? = some fv) (hne : fv.ownBlock ≠ some rb)
    (hs : a.eval s = fv) (hx : a.eval x = .slice (some ⟨wc.heap.size, 0, none⟩) 1 1)
    (h : ∀ g' cap w2, Grew B fv (f ++ [k]) wc (.slice (some ⟨g', 0, none⟩) (f.length + 1) cap) w2 → w2.cell? ⟨rb, 1, none⟩ = some fv → w2.frozen? ⟨rb, 1, none⟩ = false → K (a.put o.dst (.slice (some ⟨g', 0, none⟩) (f.length + 1) cap)) w2) :
    if Region.wanted o (yielded ops a.tmps) = true then Oper.wp Tryz.prog o a (wc.alloc (.cells #[.int .i64 (k : Int)] 3)).drew K Q else E := by
  obtain ⟨i0, hi, hz0, hz1, hz2⟩ := info_parts infoInt
  have hb : Below wc.heap.size wc (wc.alloc (.cells #[.int .i64 (k : Int)] 3)).drew := ((Below.refl _ _).alloc (Nat.le_refl _) _).drew
  have ho2 : (wc.alloc (.cells #[.int .i64 (k : Int)] 3)).drew.ownsRow B 3 1 fv f.length (f.map gI) := hown.alloc _
  have hz : (wc.alloc (.cells #[.int .i64 (k : Int)] 3)).drew.heap.size = wc.heap.size + 1 := by simp
  refine step_append_lies _ hgd s x 32 ho B 3 i0 (.int .i64 0) 1 8 Tryz.underlying32 hi hz0 hz1 hz2 rfl (by decide) fv f.length (f.map gI) hs ho2 ⟨wc.heap.size, 0, none⟩ 1 1 [gI k] hx rfl (fun j u hu => by
    rw [add_at]
    match j, hu with
    | 0, hu =>
      simp at hu
      subst hu
      exact new_cell wc _ 3
    | j + 1, hu => simp at hu) (by intro u hu; simp at hu; subst hu; rfl) (by decide) (by unfold maxLen; omega) (by omega) (by omega) (wc.heap.size + 1) hz ?_
  intro g' cap w2 ow hg hat hlt
  have st : St (fun x => fv.ownBlock = some x) wc w2 := (St.of_below hb).trans (St.of_grown (S := fun x => fv.ownBlock = some x) hg fun k e => e) fun _ _ q => q
  have hbx : w2.heap[rb]? = some (.cells cs 150 (0, 0)) := (st.block rb (Array.getElem?_eq_some_iff.1 hbox).1 hne).trans hbox
  refine h g' cap w2 ⟨?_, st, ?_⟩ (cell_blk hbx hcs) (blk_free hbx 1)
  · have e : (f ++ [k]).length = f.length + 1 := by simp
    rw [e, List.map_append]
    exact ow
  · rcases hat with h1 | h1
    · exact .inl (by rw [h1]; rfl)
    · exact .inr ⟨g', rfl, by omega⟩
/-- What Free leaves. -/
theorem Rl.gone {B : Nat} {w1 w5 : World} {rb gb mb t : Nat} {fv fv' : Value} {r : RS} {k : Nat} {g : Int} (h : Rl B w1 rb gb mb fv t r) (ha : r.aliveB (k : Int) g = true) (hs : St (fun x => x = mb ∨ fv.ownBlock = some x) w1 w5)
    (D : DataW Unit) (hD1 : w1.ownsMap Tryz.prog 58 (unitElem (H := Unit)) mb t D) (hH : Holds D r) (hk : I64 (k : Int)) (hg : I64 g) (hD : w5.ownsMap Tryz.prog 58 (unitElem (H := Unit)) mb t (D.del (kl k g)))
    (ho : w5.ownsRow B 3 1 fv' (r.free ++ [k]).length ((r.free ++ [k]).map gI)) (hat : fv'.ownBlock = fv.ownBlock ∨ ∃ x, fv'.ownBlock = some x ∧ w1.heap.size ≤ x) :
    Rl B (w5.setCell ⟨rb, 1, none⟩ fv') rb gb mb fv' t (r.freed k) ∧ St (Ft rb gb mb fv) w1 (w5.setCell ⟨rb, 1, none⟩ fv') := by
  have l1 : rb < w1.heap.size := (h.lt rb (.inl rfl)).2
  have l2 : gb < w1.heap.size := (h.lt gb (.inr (.inl rfl))).2
  have hnb : ∀ x, fv'.ownBlock = some x → x ≠ rb ∧ x ≠ gb := fun x hx => by
    rcases hat with h1 | ⟨y, h1, h2⟩
    · have := h.ne_f x (h1 ▸ hx); exact ⟨this.1, this.2.1⟩
    · rw [h1] at hx; simp at hx; omega
  have hnr : ¬ (rb = mb ∨ fv.ownBlock = some rb) := fun e => e.elim h.ne_rm (fun e => (h.ne_f rb e).1 rfl)
  have hng : ¬ (gb = mb ∨ fv.ownBlock = some gb) := fun e => e.elim h.ne_gm h.apart
  have hok : (r.freed k).ok := by have := RS.freed_ok h.ok ha; simpa using this
  have B5 := (hs.block rb l1 hnr).trans h.box
  have G5 := (hs.block gb l2 hng).trans h.gens
  refine ⟨⟨?_, ?_, ?_, ?_, hok, h.small, h.old, h.low, fun e => (hnb gb e).2 rfl⟩, ?_⟩
  · exact heap_setCell_same _ rb 1 _ 150 _ B5
  · exact (Below.heap_setCell _ _ _ _ (fun e => h.ne_rg e.symm)).trans G5
  · refine own_later ho fun x cur hx hb => ?_
    exact (Below.heap_setCell _ _ _ _ (hnb x hx).1).trans hb
  · have hH' := hH.freed (hD1.tidy keyed24) ha hk hg
    simp only [Int.toNat_natCast] at hH'
    exact ⟨_, hD.setCell (fun e => h.ne_rm e.symm) _, hH'⟩
  · exact (St.trans (S := Ft rb gb mb fv) ⟨hs.os, hs.tape, hs.output, hs.size, fun x hx hn => hs.block x hx fun e => hn (e.elim (fun e => .inr (.inr (.inl e))) (fun e => .inr (.inr (.inr e))))⟩ (St.setCell (S := Ft rb gb mb fv) (p := ⟨rb, 1, none⟩) fv' (.inl rfl)) fun _ _ q => q)
end Go.Proofs.YtoafpfheopgdkaaGreatDoor.Ro
namespace Go.Proofs.YtoafpfheopgdkaaGreatDoor.Ro
open Go.RowKit Go.Shelf Go.Maps
/-- A roll that is new. -/
def RS.fresh (n : Nat) : RS := ⟨List.replicate n 0, (List.range n).reverse⟩
set_option maxHeartbeats 800000 in
set_option maxRecDepth 100000 in
theorem new_low (Ad : Nat → Addr) (W : World) (hE : Env4 W Ad) (n : Int) (hn : n < 0) :
    Calls Tryz.prog 31 #[.int .i64 n] W fun e W' => ∃ v, e = .returned (.tuple #[.pointer none, v]) ∧ ErrAt Ad W' v bMost 1 ∧ Below W.heap.size W W' := by
  have e1 := hE.c1
  have AC := hid (at_err Ad bMost 1 (by decide) W)
  clear hE
  go_enter Tryz.func31, Tryz.ntmps31
  go_wp2_with fail
  refine AC.out.mono ?_
  rintro e w1 ⟨v, rfl, hv, hb⟩
  have HV := hid hv
  have HB := hid hb
  clear hv hb e1 AC
  go_wp2_with fail
  go_ret2
  exact ⟨v, rfl, HV.out, HB.out⟩
set_option maxHeartbeats 800000 in
set_option maxRecDepth 100000 in
theorem new_high (Ad : Nat → Addr) (W : World) (hE : Env4 W Ad) (n : Int) (hn : 64 < n) :
    Calls Tryz.prog 31 #[.int .i64 n] W fun e W' => ∃ v, e = .returned (.tuple #[.pointer none, v]) ∧ ErrAt Ad W' v bMost 1 ∧ Below W.heap.size W W' := by
  have e1 := hE.c1
  have h0 : ¬ (n < 0) := by omega
  have AC := hid (at_err Ad bMost 1 (by decide) W)
  clear hE
  go_enter Tryz.func31, Tryz.ntmps31
  go_wp2_with fail
  refine AC.out.mono ?_
  rintro e w1 ⟨v, rfl, hv, hb⟩
  have HV := hid hv
  have HB := hid hb
  clear hv hb e1 AC
  go_wp2_with fail
  go_ret2
  exact ⟨v, rfl, HV.out, HB.out⟩
theorem made_ints (n : Nat) : madeCells (Value.int .i64 0).cells (n * 1) = ((List.replicate n 0).map gI).toArray := by
  apply Array.ext_getElem?
  intro j
  by_cases hj : j < n
  · simp [madeCells, gI, Value.cells, hj, Nat.mod_one]
  · simp [madeCells, gI, Value.cells, hj]
theorem run_mk (W : World) (n : Nat) (hn : n ≤ 64) : (Instr.makeSlice 32 (.int .i64 (n : Int)) (.int .i64 (n : Int))).run Tryz.prog W = .ok (.slice (some ⟨W.heap.size, 0, none⟩) n n) (W.alloc (.cells ((List.replicate n 0).map gI).toArray 3)) := by
  obtain ⟨i0, hi, hz0, hz1, hz2⟩ := info_parts infoInt
  have h := run_makeSlice (P := Tryz.prog) W 32 3 i0 (.int .i64 0) Tryz.underlying32 hi hz0 .i64 .i64 (n : Int) (n : Int) (by omega) (by omega) (by rw [hz1]; simp; omega) (by rw [hz2]; omega) (by omega)
  rw [hz1, Int.toNat_natCast, made_ints] at h
  exact h
theorem wpList_free {ops : Array Oper} {rest : List Oper} {o : Oper} {a : Act} {Q : Exit → Act → World → Prop} (hgd : o.guard = none) (s x : Operand)
    (ho : o.op = .call { callee := .builtin .append, args := #[s, x], argTypes := #[32, 32] }) {B rb : Nat} {wc : World} {fv : Value} {f : List Nat} {k : Nat} (hown : wc.ownsRow B 3 1 fv f.length (f.map gI)) (hl : f.length ≤ 1000) (hB : B ≤ wc.heap.size)
    {cs : Array Value} (hbox : wc.heap[rb]? = some (.cells cs 150 (0, 0))) (hcs : cs[1]? = some fv) (hne : fv.ownBlock ≠ some rb)
    (hs : a.eval s = fv) (hx : a.eval x = .slice (some ⟨wc.heap.size, 0, none⟩) 1 1)
    (h : ∀ g' cap w2, Hid (Grew B fv (f ++ [k]) wc (.slice (some ⟨g', 0, none⟩) (f.length + 1) cap) w2) → w2.cell? ⟨rb, 1, none⟩ = some fv → w2.frozen? ⟨rb, 1, none⟩ = false → wpList Tryz.prog ops Q rest (a.put o.dst (.slice (some ⟨g', 0, none⟩) (f.length + 1) cap)) w2) :
    wpList Tryz.prog ops Q (o :: rest) a (wc.alloc (.cells #[.int .i64 (k : Int)] 3)) := by
  obtain ⟨i0, hi, hz0, hz1, hz2⟩ := info_parts infoInt
  have hb : Below wc.heap.size wc (wc.alloc (.cells #[.int .i64 (k : Int)] 3)) := (Below.refl _ _).alloc (Nat.le_refl _) _
  have ho2 : (wc.alloc (.cells #[.int .i64 (k : Int)] 3)).ownsRow B 3 1 fv f.length (f.map gI) := hown.alloc _
  have hz : (wc.alloc (.cells #[.int .i64 (k : Int)] 3)).heap.size = wc.heap.size + 1 := by simp
  refine wpList_append_lies _ hgd s x 32 ho B 3 i0 (.int .i64 0) 1 8 Tryz.underlying32 hi hz0 hz1 hz2 rfl (by decide) fv f.length (f.map gI) hs ho2 ⟨wc.heap.size, 0, none⟩ 1 1 [gI k] hx rfl (fun j u hu => by
    rw [add_at]
    match j, hu with
    | 0, hu =>
      simp at hu
      subst hu
      exact new_cell wc _ 3
    | j + 1, hu => simp at hu) (by intro u hu; simp at hu; subst hu; rfl) (by decide) (by unfold maxLen; omega) (by omega) (by omega) (wc.heap.size + 1) hz ?_
  intro g' cap w2 ow hg hat hlt
  have st : St (fun x => fv.ownBlock = some x) wc w2 := (St.of_below hb).trans (St.of_grown (S := fun x => fv.ownBlock = some x) hg fun k e => e) fun _ _ q => q
  have hbx : w2.heap[rb]? = some (.cells cs 150 (0, 0)) := (st.block rb (Array.getElem?_eq_some_iff.1 hbox).1 hne).trans hbox
  refine h g' cap w2 ⟨?_, st, ?_⟩ (cell_blk hbx hcs) (blk_free hbx 1)
  · have e : (f ++ [k]).length = f.length + 1 := by simp
    rw [e, List.map_append]
    exact ow
  · rcases hat with h1 | h1
    · exact .inl (by rw [h1]; rfl)
    · exact .inr ⟨g', rfl, by omega⟩
/-- A roll that is being made: of its places those of the row l are free. -/
structure Mk (B : Nat) (W : World) (rb gb mb n : Nat) (fv : Value) (l : List Nat) (wr : World) : Prop where
  box : wr.heap[rb]? = some (.cells #[.slice (some ⟨gb, 0, none⟩) n n, fv, .map (some mb)] 150 (0, 0))
  gens : wr.heap[gb]? = some (.cells ((List.replicate n 0).map gI).toArray 3 (0, 0))
  free : wr.ownsRow B 3 1 fv l.length (l.map gI)
  map : wr.ownsMap Tryz.prog 58 (unitElem (H := Unit)) mb 0 (.map [])
  low : B ≤ rb ∧ B ≤ gb ∧ B ≤ mb
  apart : ∀ x, fv.ownBlock = some x → x ≠ rb ∧ x ≠ gb ∧ x ≠ mb
  three : rb ≠ gb ∧ rb ≠ mb
  bel : Below B W wr
theorem Mk.next {B : Nat} {W wr w2 : World} {rb gb mb n k : Nat} {fv fv' : Value} {l : List Nat} (h : Mk B W rb gb mb n fv l wr) (hB : B ≤ wr.heap.size) (g : Grew B fv (l ++ [k]) wr fv' w2) : Mk B W rb gb mb n fv' (l ++ [k]) (w2.setCell ⟨rb, 1, none⟩ fv') := by
  have lt := fun {k : Nat} {o : Obj} (h : wr.heap[k]? = some o) => (Array.getElem?_eq_some_iff.1 h).1
  have l1 := lt h.box
  have l2 := lt h.gens
  have l3 := h.map.lt
  have hap : ∀ x, fv'.ownBlock = some x → x ≠ rb ∧ x ≠ gb ∧ x ≠ mb := fun x hx => by
    rcases g.at' with h1 | ⟨y, h1, h2⟩
    · exact h.apart x (h1 ▸ hx)
    · rw [h1] at hx; simp at hx; omega
  refine ⟨?_, ?_, ?_, ?_, h.low, hap, h.three, ?_⟩
  · exact heap_setCell_same _ rb 1 _ 150 _ ((g.st.block rb l1 fun e => (h.apart rb e).1 rfl).trans h.box)
  · exact (Below.heap_setCell _ _ _ _ (fun e => h.three.1 e.symm)).trans ((g.st.block gb l2 fun e => (h.apart gb e).2.1 rfl).trans h.gens)
  · exact own_later g.own fun x cur hx hb => (Below.heap_setCell _ _ _ _ (hap x hx).1).trans hb
  · obtain ⟨es, cl, hb, q⟩ := h.map
    refine World.ownsMap.setCell (a := ⟨rb, 1, none⟩) ⟨es, cl, (g.st.block mb l3 fun e => (h.apart mb e).2.2 rfl).trans hb, q⟩ (fun e => h.three.2 e.symm) _
  · have s1 : Below B wr w2 := g.st.below (fun x hx => (h.free.lt x hx).1) hB
    exact (h.bel.trans s1).setCell h.low.1 _
theorem range_drop (n q : Nat) (h : q < n) : ((List.range n).drop q).reverse = ((List.range n).drop (q + 1)).reverse ++ [q] := by
  rw [List.drop_eq_getElem_cons (by simpa using h), List.reverse_cons]
  simp
theorem Mk.roll {W wr : World} {rb gb mb n : Nat} {fv : Value} (h : Mk W.heap.size W rb gb mb n fv (List.range n).reverse wr) (hn : n ≤ 64) : Rl W.heap.size wr rb gb mb fv 0 (RS.fresh n) := by
  refine ⟨?_, h.gens, h.free, ⟨_, h.map, ?_, ?_⟩, ⟨?_, ?_⟩, ?_, ?_, h.low, fun e => (h.apart gb e).2.1 rfl⟩
  · simpa [RS.fresh] using h.box
  · intro i g _ _
    have : (RS.fresh n).aliveB i g = false := by
      rw [Bool.eq_false_iff]
      intro ha
      obtain ⟨_, _, c, d⟩ := (RS.aliveB_iff _ _ _).1 ha
      have := (List.getElem?_eq_some_iff.1 d).1
      exact c (by simpa [RS.fresh] using this)
    rw [this]
    rfl
  · simp [RS.fresh, Maps.size]
  · exact (List.reverse_perm (List.range n)).nodup_iff.2 List.nodup_range
  · intro i hi
    simpa [RS.fresh] using hi
  · simpa [RS.fresh] using hn
  · intro g hg
    simp [RS.fresh] at hg
    omega
set_option maxHeartbeats 1600000 in
set_option maxRecDepth 100000 in
theorem new_some (W : World) (n : Nat) (hn : n ≤ 64) :
    Calls Tryz.prog 31 #[.int .i64 (n : Int)] W fun e W' => ∃ rb gb mb fv, e = .returned (.tuple #[.pointer (some ⟨rb, 0, none⟩), .nilIface]) ∧ Rl W.heap.size W' rb gb mb fv 0 (RS.fresh n) ∧ Below W.heap.size W W' := by
  have h0 : ¬ ((n : Int) < 0) := by omega
  have h1 : ¬ (64 < (n : Int)) := by omega
  have h2 : (n : Int) ≤ 64 := by omega
  have hmk := run_mk W n hn
  have hmm := run_makeMap (P := Tryz.prog) 148
  have M0 : Hid (Mk W.heap.size W (W.heap.size + 2) W.heap.size (W.heap.size + 1) n (.slice none 0 0) [] (((W.alloc (.cells ((List.replicate n 0).map gI).toArray 3)).alloc (.map #[] 0)).alloc (.cells #[.slice (some ⟨W.heap.size, 0, none⟩) n n, .slice none 0 0, .map (some (W.heap.size + 1))] 150))) := by
    generalize hcs : ((List.replicate n 0).map gI).toArray = cs at *
    refine ⟨?_, ?_, World.ownsRow_nil _ _ _ _, ?_, by omega, fun x hx => by simp [Value.ownBlock] at hx, by omega, ?_⟩
    · have := heap_alloc_new ((W.alloc (.cells cs 3)).alloc (.map #[] 0)) (.cells #[.slice (some ⟨W.heap.size, 0, none⟩) n n, .slice none 0 0, .map (some (W.heap.size + 1))] 150)
      simpa using this
    · rw [Below.heap_alloc _ _ _ (by simp; omega), Below.heap_alloc _ _ _ (by simp), hcs]
      exact heap_alloc_new W _
    · have := World.ownsMap_made (W.alloc (.cells cs 3)) Tryz.prog 58 (unitElem (H := Unit))
      rw [World.size_alloc] at this
      exact this.alloc _
    · exact (((Below.refl _ _).alloc (Nat.le_refl _) _).alloc (by simp) _).alloc (by simp; omega) _
  generalize ((List.replicate n 0).map gI).toArray = cs at *
  go_enter Tryz.func31, Tryz.ntmps31
  go_wp2_with fail
  go_loopw [5] (fun i wr => ∃ (j : Nat) (z : Int), j ≤ n ∧ Hid (z = (j : Int) - 1) ∧ i = .int .i64 z ∧ ∃ fv, Hid (Mk W.heap.size W (W.heap.size + 2) W.heap.size (W.heap.size + 1) n fv ((List.range n).drop j).reverse wr)) (fun i _ => (intOf i + 1).toNat)
  case atStart => exact ⟨n, _, Nat.le_refl _, rfl, rfl, _, by rw [List.drop_of_length_le (by simp)]; exact M0.out⟩
  case round =>
    obtain ⟨j, z, hj, HZ, rfl, fv, HM⟩ := hrel
    clear hmk hmm M0
    by_cases hlt : 0 < j
    · obtain ⟨q, rfl⟩ : ∃ q, j = q + 1 := ⟨j - 1, by omega⟩
      obtain rfl : z = (q : Int) := by have := HZ.out; omega
      clear HZ
      have hqi : (0 : Int) ≤ (q : Int) := by omega
      have hq64 : (q : Int) ≤ 64 := by omega
      have hfl : ((List.range n).drop (q + 1)).reverse.length ≤ 1000 := by simp; omega
      have x1 := cell_blk HM.out.box (j := 1) rfl
      have hrl : W.heap.size + 2 < wr.heap.size := World.block_lt_of_cell? wr _ x1
      have hrn : ¬ (W.heap.size + 2 = wr.heap.size) := by omega
      have RD := hid (range_drop n q (by omega))
      obtain ⟨l, hl⟩ : ∃ l, l = ((List.range n).drop (q + 1)).reverse := ⟨_, rfl⟩
      rw [← hl] at HM hfl RD
      clear hl
      obtain ⟨fa, fc, rfl⟩ := own_slice HM.out.free
      go_wp2_with (at_builtin; refine wpList_free rfl _ _ rfl HM.out.free hfl (by omega) HM.out.box rfl (fun e => (HM.out.apart _ e).1 rfl) rfl rfl ?_; intro g' cap w2 hgr hx5 hf5)
      exact ⟨⟨q, _, by omega, rfl, rfl, _, by rw [RD.out]; exact HM.out.next (by omega) hgr.out⟩, by simp [intOf]⟩
    · obtain rfl : j = 0 := by omega
      obtain rfl : z = -1 := by have := HZ.out; omega
      clear HZ
      go_wp2_with fail
      go_ret2
      have hM := HM.out
      rw [List.drop_zero] at hM
      exact ⟨_, _, _, _, rfl, hM.roll hn, hM.bel⟩
end Go.Proofs.YtoafpfheopgdkaaGreatDoor.Ro
namespace Go.Proofs.YtoafpfheopgdkaaGreatDoor.Ro
open Go.RowKit Go.Shelf Go.Maps
/-- Those that are given among the first k places. -/
def RS.upto (r : RS) : Nat → List (Nat × Nat)
  | 0 => []
  | k + 1 => if k ∈ r.free then r.upto k else r.upto k ++ [(k, r.gens.getD k 0)]
def RS.all (r : RS) : List (Nat × Nat) := r.upto r.gens.length
def entCells (l : List (Nat × Nat)) : List Value := l.flatMap fun p => [gI p.1, gI p.2]
theorem entCells_len (l : List (Nat × Nat)) : (entCells l).length = l.length * 2 := by
  induction l with
  | nil => rfl
  | cons x l ih => simp only [entCells, List.flatMap_cons, List.length_append, List.length_cons, List.length_nil] at ih ⊢; omega
theorem entCells_snoc (l : List (Nat × Nat)) (p : Nat × Nat) : entCells (l ++ [p]) = entCells l ++ [gI p.1, gI p.2] := by simp [entCells]
theorem infoEnt : (Tryz.prog.info? 58).map (fun i => (i.zero, i.size, i.bytes)) = some (some (.agg #[.int .i64 0, .int .i64 0]), 2, 16) := by kernel_rfl
/-- A row of entities. -/
def Ents (B : Nat) (W : World) (v : Value) (l : List (Nat × Nat)) : Prop := W.ownsRow B 58 2 v l.length (entCells l)
theorem Ents.later {B : Nat} {W W' : World} {v : Value} {l : List (Nat × Nat)} (h : Ents B W v l) (hb : Below W.heap.size W W') : Ents B W' v l := World.ownsRow.kept h (row := none) ⟨hb.os, hb.tape, hb.output, hb.size, fun k hk _ => hb.block k hk⟩ (by cases hv : v.ownBlock <;> simp)
theorem Ents.slice {B : Nat} {W : World} {v : Value} {l : List (Nat × Nat)} (h : Ents B W v l) : ∃ a c, v = .slice a l.length c := by
  rcases h.2 with ⟨h1, h2⟩ | ⟨g, cap, cur, h1, _⟩
  · exact ⟨none, 0, by rw [h2]; exact h1⟩
  · exact ⟨_, _, h1⟩
/-- append of one entity. -/
theorem wpList_ent {ops : Array Oper} {rest : List Oper} {o : Oper} {a : Act} {Q : Exit → Act → World → Prop} (hgd : o.guard = none) (s x : Operand)
    (ho : o.op = .call { callee := .builtin .append, args := #[s, x], argTypes := #[76, 76] }) {B : Nat} {wc : World} {v : Value} {l : List (Nat × Nat)} {k g : Nat} (hown : Ents B wc v l) (hl : l.length ≤ 1000) (hB : B ≤ wc.heap.size)
    (hs : a.eval s = v) (hx : a.eval x = .slice (some ⟨wc.heap.size, 0, none⟩) 1 1)
    (h : ∀ v' w2, Hid (Ents B w2 v' (l ++ [(k, g)])) → Hid (St (fun x => v.ownBlock = some x) wc w2) → Hid (v'.ownBlock = v.ownBlock ∨ ∃ x, v'.ownBlock = some x ∧ wc.heap.size ≤ x) → wpList Tryz.prog ops Q rest (a.put o.dst v') w2) :
    wpList Tryz.prog ops Q (o :: rest) a (wc.alloc (.cells #[.int .i64 (k : Int), .int .i64 (g : Int)] 58)) := by
  obtain ⟨i0, hi, hz0, hz1, hz2⟩ := info_parts infoEnt
  have hb : Below wc.heap.size wc (wc.alloc (.cells #[.int .i64 (k : Int), .int .i64 (g : Int)] 58)) := (Below.refl _ _).alloc (Nat.le_refl _) _
  have ho2 : (wc.alloc (.cells #[.int .i64 (k : Int), .int .i64 (g : Int)] 58)).ownsRow B 58 2 v l.length (entCells l) := hown.alloc _
  have hz : (wc.alloc (.cells #[.int .i64 (k : Int), .int .i64 (g : Int)] 58)).heap.size = wc.heap.size + 1 := by simp
  obtain ⟨d0, d1⟩ := cell_new2 wc (.int .i64 (k : Int)) (.int .i64 (g : Int)) 58
  refine wpList_append_lies _ hgd s x 76 ho B 58 i0 (.agg #[.int .i64 0, .int .i64 0]) 2 16 Tryz.underlying76 hi hz0 hz1 hz2 rfl (by decide) v l.length (entCells l) hs ho2 ⟨wc.heap.size, 0, none⟩ 1 1 [gI k, gI g] hx rfl (fun j u hu => by
    rw [add_at]
    match j, hu with
    | 0, hu => simp at hu; subst hu; exact d0
    | 1, hu => simp at hu; subst hu; exact d1
    | j + 2, hu => simp at hu) (by intro u hu; simp at hu; rcases hu with rfl | rfl <;> rfl) (by decide) (by unfold maxLen; omega) (by omega) (by omega) (wc.heap.size + 1) hz ?_
  intro g' cap w2 ow hg hat hlt
  refine h _ w2 ?_ ((St.of_below hb).trans (St.of_grown (S := fun x => v.ownBlock = some x) hg fun k e => e) fun _ _ q => q) ?_
  · show World.ownsRow _ _ _ _ _ _ _
    rw [entCells_snoc, List.length_append]
    exact ow
  · rcases hat with h1 | h1
    · exact .inl (by rw [h1]; rfl)
    · exact .inr ⟨g', rfl, by omega⟩
theorem RS.upto_len (r : RS) (k : Nat) : (r.upto k).length ≤ k := by
  induction k with
  | zero => simp [RS.upto]
  | succ k ih =>
    unfold RS.upto
    split
    · omega
    · simp only [List.length_append, List.length_singleton]; omega
theorem RS.alive_at {r : RS} {k : Nat} (hk : k < r.gens.length) : r.aliveB (k : Int) ((r.gens.getD k 0 : Nat) : Int) = decide (k ∉ r.free) := by
  have h1 : r.gens[k]? = some (r.gens.getD k 0) := by rw [List.getD_eq_getElem?_getD, List.getElem?_eq_getElem hk]; rfl
  generalize r.gens.getD k 0 = g at *
  rw [Bool.eq_iff_iff, RS.aliveB_iff, decide_eq_true_iff, Int.toNat_natCast, Int.toNat_natCast]
  exact ⟨fun h => h.2.2.1, fun h => ⟨by omega, by omega, h, h1⟩⟩
end Go.Proofs.YtoafpfheopgdkaaGreatDoor.Ro
namespace Go.Proofs.YtoafpfheopgdkaaGreatDoor.Ro
open Go.RowKit Go.Shelf Go.Maps
/-- A roll whose blocks are S. -/
def Rol (B : Nat) (W : World) (rb t : Nat) (r : RS) (S : Nat → Prop) : Prop := ∃ gb mb fv, Rl B W rb gb mb fv t r ∧ ∀ k, S k ↔ Ft rb gb mb fv k
section
variable {B : Nat} {W W' : World} {rb t : Nat} {r : RS} {S : Nat → Prop}
theorem Rol.kept {T : Nat → Prop} (h : Rol B W rb t r S) (hs : St T W W') (hd : ∀ k, S k → ¬ T k) : Rol B W' rb t r S := by
  obtain ⟨gb, mb, fv, h1, h2⟩ := h
  exact ⟨gb, mb, fv, h1.kept hs fun k hk => hd k ((h2 k).2 hk), h2⟩
theorem Rol.later (h : Rol B W rb t r S) (hb : Below W.heap.size W W') : Rol B W' rb t r S := h.kept (T := fun _ => False) (St.of_below hb) fun _ _ q => q
theorem Rol.lt (h : Rol B W rb t r S) (k : Nat) (hk : S k) : B ≤ k ∧ k < W.heap.size := by
  obtain ⟨gb, mb, fv, h1, h2⟩ := h
  exact h1.lt k ((h2 k).1 hk)
theorem Rol.ok (h : Rol B W rb t r S) : r.ok := by obtain ⟨gb, mb, fv, h1, h2⟩ := h; exact h1.ok
theorem Rol.small (h : Rol B W rb t r S) : r.gens.length ≤ 64 := by obtain ⟨gb, mb, fv, h1, h2⟩ := h; exact h1.small
theorem Rol.few (h : Rol B W rb t r S) : r.free.length ≤ r.gens.length := by obtain ⟨gb, mb, fv, h1, h2⟩ := h; exact h1.few
theorem Rol.old (h : Rol B W rb t r S) : ∀ g ∈ r.gens, g ≤ t := by obtain ⟨gb, mb, fv, h1, h2⟩ := h; exact h1.old
theorem Rol.base (h : Rol B W rb t r S) : B ≤ W.heap.size := by obtain ⟨gb, mb, fv, h1, h2⟩ := h; have := h1.lt rb (.inl rfl); omega
theorem Rol.below (h : Rol B W rb t r S) (hs : St S W W') : Below B W W' := hs.below (fun k hk => (h.lt k hk).1) h.base
theorem rol_new (W : World) (n : Nat) (hn : n ≤ 64) :
    Calls Tryz.prog 31 #[.int .i64 (n : Int)] W fun e W' => ∃ rb S, e = .returned (.tuple #[.pointer (some ⟨rb, 0, none⟩), .nilIface]) ∧ Rol W.heap.size W' rb 0 (RS.fresh n) S ∧ Below W.heap.size W W' := by
  refine (new_some W n hn).mono ?_
  rintro e w ⟨rb, gb, mb, fv, rfl, h, hb⟩
  exact ⟨rb, _, rfl, ⟨gb, mb, fv, h, fun _ => Iff.rfl⟩, hb⟩
theorem rol_take {f : List Nat} {i : Nat} (h : Rol B W rb t r S) (hf : r.free = f ++ [i]) (ht : t ≤ 1000) :
    Calls Tryz.prog 36 #[.pointer (some ⟨rb, 0, none⟩)] W fun e W' => e = .returned (.tuple #[.agg #[.int .i64 i, .int .i64 ((r.gens.getD i 0 : Nat) + 1 : Int)], .nilIface]) ∧ Rol B W' rb (t + 1) (r.took i) S ∧ St S W W' := by
  obtain ⟨gb, mb, fv, h1, h2⟩ := h
  refine (take_some h1 hf ht).mono ?_
  rintro e w ⟨rfl, fv', h3, h4, h5⟩
  refine ⟨rfl, ⟨gb, mb, fv', h3, fun k => ?_⟩, ⟨h5.os, h5.tape, h5.output, h5.size, fun k hk hn => h5.block k hk fun q => hn ((h2 k).2 q)⟩⟩
  rw [h2 k]
  unfold Ft
  rw [h4]
theorem rol_full (Ad : Nat → Addr) (h : Rol B W rb t r S) (hE : Env4 W Ad) (hf : r.free = []) :
    Calls Tryz.prog 36 #[.pointer (some ⟨rb, 0, none⟩)] W fun e W' => ∃ b, e = .returned (.tuple #[.agg #[.int .i64 0, .int .i64 0], .iface 156 (.pointer (some ⟨b, 0, none⟩))]) ∧ W.heap.size ≤ b ∧ ErrAt Ad W' (.iface 156 (.pointer (some ⟨b, 0, none⟩))) bTake 6 ∧ Below W.heap.size W W' := by
  obtain ⟨gb, mb, fv, h1, h2⟩ := h
  exact take_full Ad h1 hE hf
theorem rol_alive (h : Rol B W rb t r S) (i g : Int) (hi : I64 i) (hg : I64 g) :
    Calls Tryz.prog 86 #[.pointer (some ⟨rb, 0, none⟩), .agg #[.int .i64 i, .int .i64 g]] W fun e W' => e = .returned (.bool (r.aliveB i g)) ∧ Below W.heap.size W W' := by
  obtain ⟨gb, mb, fv, h1, h2⟩ := h
  exact alive_any h1 i g hi hg
end
theorem Env4.same {w : World} {Ad : Nat → Addr} (h : Env4 w Ad) {p k : Nat} (hp : p ∈ four) (hk : k ∈ four) : decide (Ad p = Ad k) = decide (p = k) := by
  by_cases e : p = k
  · subst e; simp
  · have : Ad p ≠ Ad k := fun h' => e (h.inj p hp k hk h')
    simp [e, this]
theorem is_err (Ad : Nat → Addr) {W : World} {v : Value} {s : ByteArray} {p k : Nat} (hE : Env4 W Ad) (h : ErrAt Ad W v s p) (hp : p ∈ four) (hk : k ∈ four) :
    Calls Tryz.prog 127 #[v, .iface 262 (.pointer (some (Ad k)))] W fun e W' => e = .returned (.bool (decide (p = k))) ∧ Below W.heap.size W W' := by
  obtain ⟨t, q, rfl, -⟩ := h.1.shape
  refine is_by Ad k t q _ W ((eis_gen Ad W.heap.size k W [s] _ p (hE.sen p hp) (hE.sen k hk) (hE.same hp hk) h.1).mono ?_)
  rintro e w' ⟨rfl, rfl⟩
  exact ⟨rfl, Below.refl _ _⟩
theorem ErrAt.kept {Ad : Nat → Addr} {W W' : World} {b : Nat} {s : ByteArray} {k : Nat} {S : Nat → Prop} (h : ErrAt Ad W (.iface 156 (.pointer (some ⟨b, 0, none⟩))) s k) (hs : St S W W') (hb : ¬ S b) : ErrAt Ad W' (.iface 156 (.pointer (some ⟨b, 0, none⟩))) s k := by
  obtain ⟨⟨b', inner, hv, hlt, c0, c1, hi⟩, h2⟩ := h
  obtain rfl : b = b' := by simpa using hv
  have e := hs.block b hlt hb
  exact ⟨⟨b, inner, rfl, Nat.lt_of_lt_of_le hlt hs.size, (World.cell?_of_block (a := ⟨b, 0, none⟩) e).trans c0, (World.cell?_of_block (a := ⟨b, 1, none⟩) e).trans c1, hi⟩, h2⟩
end Go.Proofs.YtoafpfheopgdkaaGreatDoor.Ro
namespace Go.Proofs.YtoafpfheopgdkaaGreatDoor.Ro
open Go.RowKit Go.Shelf Go.Maps
theorem bAl (W : World) (o : Obj) : Below W.heap.size W (W.alloc o) := (Below.refl _ _).alloc (Nat.le_refl _) _
theorem St.at {S : Nat → Prop} {W W' : World} {b : Nat} {o : Obj} (hs : St S W W') (h : W.heap[b]? = some o) (hn : ¬ S b) : W'.heap[b]? = some o := (hs.block b (Array.getElem?_eq_some_iff.1 h).1 hn).trans h
set_option maxRecDepth 100000 in
theorem eql_ent (i g i' g' : Int) (hi : I64 i) (hg : I64 g) (hi' : I64 i') (hg' : I64 g') (w : World) : (binOp .eql 58 (.agg #[.int .i64 i, .int .i64 g]) (.agg #[.int .i64 i', .int .i64 g'])).run Tryz.prog w = .ok (.bool (decide (i = i' ∧ g = g'))) w := by
  obtain ⟨r, hr, hiff⟩ := run_equal_deep (P := Tryz.prog) w (m := 2) (by omega) (k := 58) (by kernel_rfl) Tryz.wide24 (key_ent i g hi hg) (key_ent i' g' hi' hg')
  have e : r = decide (i = i' ∧ g = g') := by
    rw [Bool.eq_iff_iff, hiff, decide_eq_true_iff]
    exact ⟨fun h => kl_inj hi hg hi' hg' h, fun h => by rw [h.1, h.2]⟩
  unfold entV at hr
  rw [← e]
  simp [binOp, hr]
set_option maxRecDepth 100000 in
theorem neq_ent (i g i' g' : Int) (hi : I64 i) (hg : I64 g) (hi' : I64 i') (hg' : I64 g') (w : World) : (binOp .neq 58 (.agg #[.int .i64 i, .int .i64 g]) (.agg #[.int .i64 i', .int .i64 g'])).run Tryz.prog w = .ok (.bool (!decide (i = i' ∧ g = g'))) w := by
  obtain ⟨r, hr, hiff⟩ := run_equal_deep (P := Tryz.prog) w (m := 2) (by omega) (k := 58) (by kernel_rfl) Tryz.wide24 (key_ent i g hi hg) (key_ent i' g' hi' hg')
  have e : r = decide (i = i' ∧ g = g') := by
    rw [Bool.eq_iff_iff, hiff, decide_eq_true_iff]
    exact ⟨fun h => kl_inj hi hg hi' hg' h, fun h => by rw [h.1, h.2]⟩
  unfold entV at hr
  rw [← e]
  simp [binOp, hr]
end Go.Proofs.YtoafpfheopgdkaaGreatDoor.Ro
namespace Go.Proofs.YtoafpfheopgdkaaGreatDoor.Ro
open Go.ChangeShapes Go.WideShapes Go.ChangeAt Go.RowKit
theorem u64_nat (m : Int) : ∃ q : Nat, IntKind.u64.wrap m = (q : Int) := by
  have h : 0 ≤ IntKind.u64.wrap m := by
    show 0 ≤ m % _
    exact Int.emod_nonneg _ (by decide)
  exact Int.eq_ofNat_of_zero_le h
theorem rem_at (m : Int) (n : Nat) (h0 : 0 < n) : ∃ (u : Int) (k : Nat), k < n ∧ IntKind.u64.wrap m = u ∧ u.tmod (n : Int) = (k : Int) := by
  obtain ⟨q, hq⟩ := u64_nat m
  exact ⟨_, q % n, Nat.mod_lt _ h0, hq, by rw [← Int.ofNat_tmod]⟩
/-- What is listed is given. -/
theorem RS.upto_mem {r : RS} {k : Nat} {p : Nat × Nat} (h : p ∈ r.upto k) : p.1 < k ∧ p.1 ∉ r.free ∧ p.2 = r.gens.getD p.1 0 := by
  induction k with
  | zero => simp [RS.upto] at h
  | succ k ih =>
    unfold RS.upto at h
    split at h
    · obtain ⟨a, b, c⟩ := ih h; exact ⟨by omega, b, c⟩
    · rename_i hk
      rcases List.mem_append.1 h with h | h
      · obtain ⟨a, b, c⟩ := ih h; exact ⟨by omega, b, c⟩
      · simp at h; subst h; exact ⟨by omega, hk, rfl⟩
theorem RS.all_alive {r : RS} {p : Nat × Nat} (h : p ∈ r.all) : r.aliveB (p.1 : Int) (p.2 : Int) = true ∧ p.1 < r.gens.length := by
  obtain ⟨a, b, c⟩ := RS.upto_mem h
  refine ⟨?_, a⟩
  rw [c, RS.alive_at a]
  simpa using b
theorem RS.upto_full {r : RS} (h : r.free = []) (k : Nat) : r.upto k = (List.range k).map fun i => (i, r.gens.getD i 0) := by
  induction k with
  | zero => rfl
  | succ k ih => rw [RS.upto, if_neg (by rw [h]; simp), ih, List.range_succ, List.map_append]; rfl
theorem RS.all_full {r : RS} (h : r.free = []) {k : Nat} (hk : k < r.gens.length) : r.all[k]? = some (k, r.gens.getD k 0) := by
  unfold RS.all
  rw [RS.upto_full h]
  simp [hk]
theorem RS.all_len {r : RS} (h : r.free = []) : r.all.length = r.gens.length := by
  unfold RS.all
  rw [RS.upto_full h]
  simp
theorem Ents.cell {B : Nat} {W : World} {g cap : Nat} {l : List (Nat × Nat)} (h : Ents B W (.slice (some ⟨g, 0, none⟩) l.length cap) l) {j : Nat} {p : Nat × Nat} (hj : l[j]? = some p) : W.cell? ⟨g, j * 2, none⟩ = some (.int .i64 (p.1 : Int)) ∧ W.cell? ⟨g, j * 2 + 1, none⟩ = some (.int .i64 (p.2 : Int)) := by
  have hlt := (List.getElem?_eq_some_iff.1 hj).1
  have G : ∀ (l : List (Nat × Nat)) (j : Nat), l[j]? = some p → (entCells l)[j * 2]? = some (gI p.1) ∧ (entCells l)[j * 2 + 1]? = some (gI p.2) := by
    intro l
    induction l with
    | nil => intro j h; simp at h
    | cons x l ih =>
      intro j h
      cases j with
      | zero => simp at h; subst h; exact ⟨rfl, rfl⟩
      | succ j =>
        have := ih j (by simpa using h)
        rw [show (j + 1) * 2 = j * 2 + 2 by omega]
        exact ⟨by simpa [entCells] using this.1, by simpa [entCells] using this.2⟩
  obtain ⟨g0, g1⟩ := G l j hj
  exact ⟨(World.ownsRow.cellAt h (j * 2) (by omega)).trans g0, (World.ownsRow.cellAt h (j * 2 + 1) (by omega)).trans g1⟩
theorem Ents.some {B : Nat} {W : World} {a : Option Addr} {cap : Nat} {l : List (Nat × Nat)} (h : Ents B W (.slice a l.length cap) l) (h0 : 0 < l.length) : ∃ g, a = Option.some ⟨g, 0, none⟩ ∧ B ≤ g ∧ g < W.heap.size := by
  obtain ⟨g, cap', e, h1, h2⟩ := World.ownsRow.form h h0
  simp only [Value.slice.injEq, true_and] at e
  exact ⟨g, e.1, h1, h2⟩
end Go.Proofs.YtoafpfheopgdkaaGreatDoor.Ro
namespace Go.Proofs.YtoafpfheopgdkaaGreatDoor.Ro
open Go.RowKit Go.Shelf Go.Maps
theorem RS.took_len (r : RS) (i : Nat) : (r.took i).gens.length = r.gens.length := by simp [RS.took]
theorem RS.took_count {r : RS} {f : List Nat} {i : Nat} (hf : r.free = f ++ [i]) : (r.took i).free.length = f.length := by simp [RS.took, hf]
theorem RS.took_own {r : RS} {f : List Nat} {i : Nat} (h : r.ok) (hf : r.free = f ++ [i]) : (r.took i).aliveB (i : Int) ((r.gens.getD i 0 : Nat) + 1 : Int) = true := by
  rw [RS.took_alive h hf, if_pos ⟨rfl, by omega⟩]
theorem I64_mid {n : Int} (h0 : -1000000 ≤ n) (h1 : n ≤ 1000000) : I64 n := by
  unfold I64 Lit.wf
  simp [IntKind.min, IntKind.max, IntKind.signed, IntKind.bits]
  omega
theorem RS.alive_less {r : RS} {k : Nat} (hk : k < r.gens.length) : r.aliveB (k : Int) (((r.gens.getD k 0 : Nat) : Int) - 1) = false := by
  rw [Bool.eq_false_iff]
  intro h
  obtain ⟨_, h2, _, h4⟩ := (RS.aliveB_iff _ _ _).1 h
  have h5 : r.gens[k]? = some (r.gens.getD k 0) := by rw [List.getD_eq_getElem?_getD, List.getElem?_eq_getElem hk]; rfl
  rw [Int.toNat_natCast, h5] at h4
  simp only [Option.some.injEq] at h4
  omega
theorem RS.gen_le {B : Nat} {W : World} {rb t : Nat} {r : RS} {S : Nat → Prop} (h : Rol B W rb t r S) {k : Nat} (hk : k < r.gens.length) : r.gens.getD k 0 ≤ t := by
  rw [List.getD_eq_getElem?_getD, List.getElem?_eq_getElem hk]; exact h.old _ (List.getElem_mem hk)
end Go.Proofs.YtoafpfheopgdkaaGreatDoor.Ro
namespace Go.Proofs.YtoafpfheopgdkaaGreatDoor.Ro
open Go.RowKit Go.Shelf Go.Maps
theorem filter_lt (l : List Nat) (k : Nat) : (l.filter fun x => decide (x < k + 1)).length = (l.filter fun x => decide (x < k)).length + l.count k := by
  induction l with
  | nil => rfl
  | cons a l ih =>
    by_cases h1 : a < k
    · have h2 : a < k + 1 := by omega
      have h3 : a ≠ k := by omega
      simp only [List.filter_cons, h1, h2, decide_true, if_true, List.length_cons, List.count_cons, ih]
      simp [h3]
      omega
    · by_cases h2 : a = k
      · subst h2
        simp only [List.filter_cons, List.count_cons]
        simp [ih]
        omega
      · have h3 : ¬ a < k + 1 := by omega
        simp only [List.filter_cons, h1, h3, decide_false, List.count_cons]
        simp [ih, h2]
theorem RS.upto_count {r : RS} (h : r.free.Nodup) (k : Nat) : (r.upto k).length + (r.free.filter fun x => decide (x < k)).length = k := by
  induction k with
  | zero => simp [RS.upto]
  | succ k ih =>
    rw [filter_lt, h.count]
    unfold RS.upto
    split
    · omega
    · simp only [List.length_append, List.length_singleton]; omega
theorem RS.all_count {r : RS} (h : r.ok) : r.all.length = r.count := by
  have h1 := RS.upto_count h.1 r.gens.length
  have h2 : (r.free.filter fun x => decide (x < r.gens.length)) = r.free := List.filter_eq_self.2 fun x hx => by simpa using h.2 x hx
  rw [h2] at h1
  unfold RS.all RS.count
  omega
def trues (al : List Bool) : Nat := al.count true
theorem getD_set {l : List Nat} {i j x : Nat} : (l.set i x).getD j 0 = if i = j ∧ j < l.length then x else l.getD j 0 := by
  simp only [List.getD_eq_getElem?_getD, List.getElem?_set]
  by_cases h : i = j
  · subst h
    by_cases h2 : i < l.length
    · simp [h2]
    · simp [h2]
  · simp [h]
theorem count_set (al : List Bool) (k : Nat) (h : al[k]? = some true) : trues (al.set k false) + 1 = trues al := by
  unfold trues
  induction al generalizing k with
  | nil => simp at h
  | cons a al ih =>
    cases k with
    | zero => simp at h; subst h; simp
    | succ k =>
      have := ih k (by simpa using h)
      simp only [List.set_cons_succ, List.count_cons]
      omega
theorem set_self (al : List Bool) (k : Nat) (h : al[k]? = some false) : al.set k false = al := by
  apply List.ext_getElem?
  intro j
  rw [List.getElem?_set]
  split
  · rename_i e; subst e
    obtain ⟨h1, h2⟩ := List.getElem?_eq_some_iff.1 h
    rw [if_pos h1, h]
  · rfl
/-- A row of bools. -/
def Bools (B : Nat) (W : World) (v : Value) (l : List Bool) : Prop := W.ownsRow B 4 1 v l.length (l.map Value.bool)
theorem infoBool : (Tryz.prog.info? 4).map (fun i => (i.zero, i.size, i.bytes)) = some (some (.bool false), 1, 1) := by kernel_rfl
theorem Ents.kept {B : Nat} {W W' : World} {v : Value} {l : List (Nat × Nat)} {T : Nat → Prop} (h : Ents B W v l) (hs : St T W W') (hn : ∀ x : Nat, v.ownBlock = Option.some x → ¬ T x) : Ents B W' v l := by
  refine ⟨h.1, ?_⟩
  rcases h.2 with h1 | ⟨g, cap, cur, h1, h2, h3, h4⟩
  · exact .inl h1
  · exact .inr ⟨g, cap, cur, h1, h2, hs.at h3 (hn g (by rw [h1]; rfl)), h4⟩
theorem Bools.kept {B : Nat} {W W' : World} {v : Value} {l : List Bool} {T : Nat → Prop} (h : Bools B W v l) (hs : St T W W') (hn : ∀ x, v.ownBlock = some x → ¬ T x) : Bools B W' v l := by
  refine ⟨h.1, ?_⟩
  rcases h.2 with h1 | ⟨g, cap, cur, h1, h2, h3, h4⟩
  · exact .inl h1
  · exact .inr ⟨g, cap, cur, h1, h2, hs.at h3 (hn g (by rw [h1]; rfl)), h4⟩
theorem rows_apart {B B' : Nat} {W : World} {v u : Value} {l : List (Nat × Nat)} {m : List Bool} (h : Ents B W v l) (h' : Bools B' W u m) (x : Nat) (hx : v.ownBlock = some x) : u.ownBlock ≠ some x := fun hu => by
  rcases h.2 with ⟨h1, _⟩ | ⟨g, cap, cur, h1, h2, h3, h4⟩
  · rw [h1] at hx; simp [Value.ownBlock] at hx
  · rcases h'.2 with ⟨k1, _⟩ | ⟨g', cap', cur', k1, k2, k3, k4⟩
    · rw [k1] at hu; simp [Value.ownBlock] at hu
    · rw [h1] at hx
      rw [k1] at hu
      obtain rfl : g = x := by simpa [Value.ownBlock] using hx
      obtain rfl : g' = g := by simpa [Value.ownBlock] using hu
      rw [h3] at k3
      simp at k3
end Go.Proofs.YtoafpfheopgdkaaGreatDoor.Ro
namespace Go.Proofs.YtoafpfheopgdkaaGreatDoor.Ro
open Go.RowKit Go.Shelf Go.Maps
section
variable {B : Nat} {w wr w' : World} {rb n : Nat} {gv av : Value} {gl : List (Nat × Nat)} {al : List Bool} {r : RS} {t : Nat} {S : Nat → Prop}
end
theorem drewN_below (W : World) (B n : Nat) : Below B W (W.drewN n) := ⟨rfl, rfl, rfl, Nat.le_refl _, fun _ _ => rfl⟩
theorem bools_slice {B : Nat} {W : World} {v : Value} {l : List Bool} (h : Bools B W v l) : ∃ a c, v = .slice a l.length c := by
  rcases h.2 with ⟨h1, h2⟩ | ⟨g, cap, cur, h1, _⟩
  · exact ⟨none, 0, by rw [h2]; exact h1⟩
  · exact ⟨_, _, h1⟩
theorem bools_some {B : Nat} {W : World} {a : Option Addr} {cap : Nat} {l : List Bool} (h : Bools B W (.slice a l.length cap) l) (h0 : 0 < l.length) : ∃ g, a = some ⟨g, 0, none⟩ := by
  obtain ⟨g, cap', e, h1, h2⟩ := World.ownsRow.form h h0
  simp only [Value.slice.injEq, true_and] at e
  exact ⟨g, e.1⟩
end Go.Proofs.YtoafpfheopgdkaaGreatDoor.Ro
namespace Go.Proofs.YtoafpfheopgdkaaGreatDoor.Ro
open Go.RowKit Go.Shelf Go.Maps
/-- Which places are given. -/
def RS.isL (r : RS) : List Bool := (List.range r.gens.length).map fun i => decide (i ∉ r.free)
theorem RS.isL_len (r : RS) : r.isL.length = r.gens.length := by simp [RS.isL]
theorem RS.isL_at {r : RS} {k : Nat} (hk : k < r.gens.length) : r.isL[k]? = some (decide (k ∉ r.free)) := by simp [RS.isL, hk]
def Fu (ub gb ib : Nat) (fv : Value) (k : Nat) : Prop := k = ub ∨ k = gb ∨ k = ib ∨ fv.ownBlock = some k
section
variable {B : Nat} {W W' : World} {ub gb ib t : Nat} {fv : Value} {r : RS}
end
theorem alive_split {r : RS} {k : Nat} (g : Int) (hk : k < r.gens.length) : r.aliveB (k : Int) g = (decide (k ∉ r.free) && (((r.gens.getD k 0 : Nat) : Int) == g)) := by
  have h1 : r.gens[k]? = some (r.gens.getD k 0) := by rw [List.getD_eq_getElem?_getD, List.getElem?_eq_getElem hk]; rfl
  generalize r.gens.getD k 0 = m at *
  rw [Bool.eq_iff_iff, RS.aliveB_iff, Bool.and_eq_true, decide_eq_true_iff, beq_iff_eq, Int.toNat_natCast, h1]
  simp only [Option.some.injEq]
  constructor
  · rintro ⟨_, b, c, d⟩; exact ⟨c, by omega⟩
  · rintro ⟨c, d⟩; exact ⟨by omega, by omega, c, by omega⟩
theorem alive_out {r : RS} {i g : Int} (h : i < 0 ∨ (r.gens.length : Int) ≤ i) : r.aliveB i g = false := by
  rw [Bool.eq_false_iff]
  intro ha
  obtain ⟨a, b, c, d⟩ := (RS.aliveB_iff _ _ _).1 ha
  have := (List.getElem?_eq_some_iff.1 d).1
  omega
theorem RS.took_is {r : RS} {f : List Nat} {i : Nat} (h : r.ok) (hf : r.free = f ++ [i]) : (r.took i).isL = r.isL.set i true := by
  obtain ⟨h1, h2⟩ := h
  rw [hf] at h1 h2
  have hi := h2 i (by simp)
  have hn : i ∉ f := fun hm => (List.nodup_append.1 h1).2.2 i hm i (by simp) rfl
  apply List.ext_getElem?
  intro j
  rw [List.getElem?_set]
  have hl : (r.took i).gens.length = r.gens.length := RS.took_len r i
  by_cases hj : j < r.gens.length
  · rw [RS.isL_at (r := r.took i) (by omega)]
    by_cases e : i = j
    · subst e
      simp [RS.isL_len, hj, RS.took, hf, hn]
    · rw [if_neg e, RS.isL_at hj]
      simp only [RS.took, hf, List.dropLast_concat, List.mem_append, List.mem_singleton]
      have : j ≠ i := fun q => e q.symm
      simp [this]
  · have e1 : (r.took i).isL[j]? = none := List.getElem?_eq_none (by rw [RS.isL_len]; omega)
    have e2 : r.isL[j]? = none := List.getElem?_eq_none (by rw [RS.isL_len]; omega)
    rw [e1, e2]
    split
    · rename_i e; rw [if_neg (by rw [RS.isL_len]; omega)]
    · rfl
theorem bools_set (l : List Bool) (i : Nat) (b : Bool) : (l.map Value.bool).toArray.setIfInBounds i (.bool b) = ((l.set i b).map Value.bool).toArray := by
  rw [List.map_set]
  simp
end Go.Proofs.YtoafpfheopgdkaaGreatDoor.Ro
namespace Go.Proofs.YtoafpfheopgdkaaGreatDoor.Ro
open Go.RowKit Go.Shelf Go.Maps
theorem wpList_row {ops : Array Oper} {rest : List Oper} {o : Oper} {a : Act} {Q : Exit → Act → World → Prop} (hgd : o.guard = none) (s x : Operand)
    (ho : o.op = .call { callee := .builtin .append, args := #[s, x], argTypes := #[32, 32] }) {B ub : Nat} {wc : World} {fv : Value} {f : List Nat} {k : Nat} (hown : wc.ownsRow B 3 1 fv f.length (f.map gI)) (hl : f.length ≤ 1000) (hB : B ≤ wc.heap.size)
    {cs : Array Value} {bt : TypeId} {ix : Nat} (hbox : wc.heap[ub]? = some (.cells cs bt (0, 0))) (hcs : cs[ix]? = some fv) (hne : fv.ownBlock ≠ some ub)
    (hs : a.eval s = fv) (hx : a.eval x = .slice (some ⟨wc.heap.size, 0, none⟩) 1 1)
    (h : ∀ g' cap w2, Hid (Grew B fv (f ++ [k]) wc (.slice (some ⟨g', 0, none⟩) (f.length + 1) cap) w2) → w2.cell? ⟨ub, ix, none⟩ = some fv → w2.frozen? ⟨ub, ix, none⟩ = false → wpList Tryz.prog ops Q rest (a.put o.dst (.slice (some ⟨g', 0, none⟩) (f.length + 1) cap)) w2) :
    wpList Tryz.prog ops Q (o :: rest) a (wc.alloc (.cells #[.int .i64 (k : Int)] 3)) := by
  obtain ⟨i0, hi, hz0, hz1, hz2⟩ := info_parts infoInt
  have hb : Below wc.heap.size wc (wc.alloc (.cells #[.int .i64 (k : Int)] 3)) := bAl _ _
  have ho2 : (wc.alloc (.cells #[.int .i64 (k : Int)] 3)).ownsRow B 3 1 fv f.length (f.map gI) := hown.alloc _
  have hz : (wc.alloc (.cells #[.int .i64 (k : Int)] 3)).heap.size = wc.heap.size + 1 := by simp
  refine wpList_append_lies _ hgd s x 32 ho B 3 i0 (.int .i64 0) 1 8 Tryz.underlying32 hi hz0 hz1 hz2 rfl (by decide) fv f.length (f.map gI) hs ho2 ⟨wc.heap.size, 0, none⟩ 1 1 [gI k] hx rfl (fun j u hu => by
    rw [add_at]
    match j, hu with
    | 0, hu =>
      simp at hu
      subst hu
      exact new_cell wc _ 3
    | j + 1, hu => simp at hu) (by intro u hu; simp at hu; subst hu; rfl) (by decide) (by unfold maxLen; omega) (by omega) (by omega) (wc.heap.size + 1) hz ?_
  intro g' cap w2 ow hg hat hlt
  have st : St (fun x => fv.ownBlock = some x) wc w2 := (St.of_below hb).trans (St.of_grown (S := fun x => fv.ownBlock = some x) hg fun k e => e) fun _ _ q => q
  have hbx := st.at hbox hne
  refine h g' cap w2 ⟨?_, st, ?_⟩ (cell_blk hbx hcs) (blk_free hbx ix)
  · have e : (f ++ [k]).length = f.length + 1 := by simp
    rw [e, List.map_append]
    exact ow
  · rcases hat with h1 | h1
    · exact .inl (by rw [h1]; rfl)
    · exact .inr ⟨g', rfl, by omega⟩
theorem made_bools (n : Nat) : madeCells (Value.bool false).cells (n * 1) = ((List.replicate n false).map Value.bool).toArray := by
  apply Array.ext_getElem?
  intro j
  by_cases hj : j < n
  · simp [madeCells, Value.cells, hj, Nat.mod_one]
  · simp [madeCells, Value.cells, hj]
theorem fresh_is (n : Nat) : (RS.fresh n).isL = List.replicate n false := by
  apply List.ext_getElem?
  intro j
  by_cases hj : j < n
  · rw [RS.isL_at (by simpa [RS.fresh] using hj)]
    simp [RS.fresh, hj]
  · rw [List.getElem?_eq_none (by rw [RS.isL_len]; simp [RS.fresh]; omega), List.getElem?_eq_none (by simp; omega)]
end Go.Proofs.YtoafpfheopgdkaaGreatDoor.Ro
namespace Go.Proofs.YtoafpfheopgdkaaGreatDoor.Ro
open Go.RowKit Go.Shelf Go.Maps
end Go.Proofs.YtoafpfheopgdkaaGreatDoor.Ro
namespace Go.Proofs.YtoafpfheopgdkaaGreatDoor.Ro
open Go.RowKit Go.Shelf Go.Maps
theorem gI_one (l : List Nat) : ∀ u ∈ l.map gI, u.oneCell' = true := by
  intro u hu
  obtain ⟨x, _, rfl⟩ := List.mem_map.1 hu
  rfl
/-- append of a row of numbers onto a row that lies above N, within a region that draws. -/
theorem step_rows {ops : Array Oper} {o : Oper} {a : Act} {K : Act → World → Prop} {Q : Exit → Act → World → Prop} {E : Prop} (hgd : o.guard = none) (s x : Operand)
    (ho : o.op = .call { callee := .builtin .append, args := #[s, x], argTypes := #[32, 32] }) {w2 wc : World} {v : Value} {xs ns : List Nat} {sb sc : Nat} (hb : Below w2.heap.size w2 wc) (hown : wc.ownsRow w2.heap.size 3 1 v xs.length (xs.map gI))
    (hsrc : ∀ j u, (ns.map gI)[j]? = some u → wc.cell? ⟨sb, j, none⟩ = some u) (hl : xs.length + ns.length ≤ 1000) (hs : a.eval s = v) (hx : a.eval x = .slice (some ⟨sb, 0, none⟩) ns.length sc)
    (h : ∀ v' w4, w4.ownsRow w2.heap.size 3 1 v' (xs ++ ns).length ((xs ++ ns).map gI) → Below w2.heap.size w2 w4 → (∀ b, b < wc.heap.size → v.ownBlock ≠ some b → w4.heap[b]? = wc.heap[b]?) → K (a.put o.dst v') w4) :
    if Region.wanted o (yielded ops a.tmps) = true then Oper.wp Tryz.prog o a wc K Q else E := by
  obtain ⟨i0, hi, hz0, hz1, hz2⟩ := info_parts infoInt
  have hw : Region.wanted o (yielded ops a.tmps) = true := by simp [Region.wanted, hgd]
  rw [if_pos hw]
  obtain ⟨v', w', hr, h2, h3, h4, h5⟩ := run_append_own_at (P := Tryz.prog) wc w2.heap.size 32 o.type 3 i0 (.int .i64 0) 1 8 Tryz.underlying32 hi hz0 hz1 hz2 rfl (by decide) v xs.length (xs.map gI) hown ⟨sb, 0, none⟩ ns.length sc (ns.map gI) (by simp) (fun j u hu => by rw [add_at]; exact hsrc j u hu) (gI_one ns) (by unfold maxLen; omega) (by omega) hb.size
  unfold Oper.wp
  simp [execOp, ho, resolve, invoke, builtin, hs, hx, hr, Result.andThen]
  refine h v' w' ?_ (hb.grown h3 hb.size fun k hk => (hown.lt k hk).1) fun b hb' hne => h3.block b hb' (fun e => hne e.symm)
  rw [List.length_append, List.map_append]
  exact h2
theorem one_src {W : World} {b k : Nat} (h : W.heap[b]? = some (.cells #[.int .i64 (k : Int)] 3 (0, 0))) : ∀ j u, ([k].map gI)[j]? = some u → W.cell? ⟨b, j, none⟩ = some u := by
  intro j u hu
  match j, hu with
  | 0, hu => simp at hu; subst hu; exact cell_blk h rfl
  | j + 1, hu => simp at hu
theorem step_rows2 {ops : Array Oper} {o : Oper} {a : Act} {K : Act → World → Prop} {Q : Exit → Act → World → Prop} {E : Prop} (hgd : o.guard = none) (s x : Operand)
    (ho : o.op = .call { callee := .builtin .append, args := #[s, x], argTypes := #[32, 32] }) {w2 wc : World} {v : Value} {xs : List Nat} {k : Nat} {sb sc : Nat} (hb : Below w2.heap.size w2 wc) (hown : wc.ownsRow w2.heap.size 3 1 v xs.length (xs.map gI))
    (hsrc : ∀ j u, ([k].map gI)[j]? = some u → wc.cell? ⟨sb, j, none⟩ = some u) (hl : xs.length + [k].length ≤ 1000) (hs : a.eval s = v) (hx : a.eval x = .slice (some ⟨sb, 0, none⟩) 1 sc)
    (h : ∀ g' cap w4, Hid (w4.ownsRow w2.heap.size 3 1 (.slice (some ⟨g', 0, none⟩) (xs.length + 1) cap) (xs ++ [k]).length ((xs ++ [k]).map gI)) → Hid (Below w2.heap.size w2 w4) → K (a.put o.dst (.slice (some ⟨g', 0, none⟩) (xs.length + 1) cap)) w4) :
    if Region.wanted o (yielded ops a.tmps) = true then Oper.wp Tryz.prog o a wc K Q else E := by
  refine step_rows (ns := [k]) (xs := xs) (w2 := w2) hgd s x ho hb hown hsrc hl hs hx ?_
  intro v' w4 ho4 hb4 _
  obtain ⟨g', cap, rfl, _, _⟩ := World.ownsRow.form ho4 (by simp)
  have e : (xs ++ [k]).length = xs.length + 1 := by simp
  have h0 := h g' cap w4
  rw [← e] at h0
  exact h0 ho4 hb4
theorem RS.freed_is {r : RS} {k : Nat} : (r.freed k).isL = r.isL.set k false := by
  apply List.ext_getElem?
  intro j
  rw [List.getElem?_set]
  have hl : (r.freed k).gens.length = r.gens.length := rfl
  by_cases hj : j < r.gens.length
  · rw [RS.isL_at (r := r.freed k) hj]
    by_cases e : k = j
    · subst e
      simp [RS.isL_len, hj, RS.freed]
    · rw [if_neg e, RS.isL_at hj]
      have : j ≠ k := fun q => e q.symm
      simp [RS.freed, this]
  · have e1 : (r.freed k).isL[j]? = none := List.getElem?_eq_none (by rw [RS.isL_len, hl]; omega)
    have e2 : r.isL[j]? = none := List.getElem?_eq_none (by rw [RS.isL_len]; omega)
    rw [e1, e2]
    split
    · rename_i e; rw [if_neg (by rw [RS.isL_len]; omega)]
    · rfl
end Go.Proofs.YtoafpfheopgdkaaGreatDoor.Ro
namespace Go.Proofs.YtoafpfheopgdkaaGreatDoor.Rs
open Go.RowKit Go.Shelf Go.Maps
open Go.Proofs.YtoafpfheopgdkaaGreatDoor.At (St bAl cell_blk blk_seen blk_free drewN_below an wi wo pow32 bits_or32 pow_le add balloc)
/-- A part. -/
structure Prt where
  c : Int
  v0 : Int
  v1 : Int
  v2 : Int
  v3 : Int
  t : Int
def Prt.arr (p : Prt) : Array Value := #[.int .i64 p.c, .int .i64 p.v0, .int .i64 p.v1, .int .i64 p.v2, .int .i64 p.v3, .int .i64 p.t]
def Prt.val (p : Prt) : Value := .agg #[.int .i64 p.c, .int .i64 p.v0, .int .i64 p.v1, .int .i64 p.v2, .int .i64 p.v3, .int .i64 p.t]
def Prt.zero : Prt := ⟨0, 0, 0, 0, 0, 0⟩
/-- The cells of parts, one behind the other. -/
def pCells (l : List Prt) : List Value := l.flatMap fun p => p.arr.toList
theorem pCells_snoc (l : List Prt) (p : Prt) : pCells (l ++ [p]) = pCells l ++ p.arr.toList := by simp [pCells]
theorem pCells_at : ∀ (l : List Prt) (j : Nat) (p : Prt), l[j]? = some p → ∀ i, i < 6 → (pCells l)[j * 6 + i]? = p.arr[i]? := by
  intro l
  induction l with
  | nil => intro j p h; simp at h
  | cons x l ih =>
    intro j p h i hi
    have e : pCells (x :: l) = x.arr.toList ++ pCells l := by simp [pCells]
    rw [e]
    cases j with
    | zero =>
      simp at h
      subst h
      rw [List.getElem?_append_left (by simp [Prt.arr]; omega)]
      simp
    | succ j =>
      have h2 := ih j p (by simpa using h) i hi
      rw [List.getElem?_append_right (by simp [Prt.arr]; omega), ← h2]
      congr 1
      simp [Prt.arr]
      omega
theorem infoPart : (Tryz.prog.info? 71).map (fun i => (i.zero, i.size, i.bytes)) = some (some (.agg #[.int .i64 0, .int .i64 0, .int .i64 0, .int .i64 0, .int .i64 0, .int .i64 0]), 6, 48) := by kernel_rfl
/-- A row of parts that is owned. -/
def Prts (B : Nat) (W : World) (v : Value) (l : List Prt) : Prop := W.ownsRow B 71 6 v l.length (pCells l)
theorem Prts.slice {B : Nat} {W : World} {v : Value} {l : List Prt} (h : Prts B W v l) : ∃ a c, v = .slice a l.length c := own_slice h
theorem Prts.kept {B : Nat} {W W' : World} {v : Value} {l : List Prt} {T : Nat → Prop} (h : Prts B W v l) (hs : St T W W') (hn : ∀ x, v.ownBlock = some x → ¬ T x) : Prts B W' v l := by
  refine ⟨h.1, h.2.elim .inl fun ⟨g, cap, cur, h1, h2, h3, h4⟩ => .inr ⟨g, cap, cur, h1, h2, ?_, h4⟩⟩
  exact hs.at h3 (hn g (by rw [h1]; rfl))
theorem Prts.later {B : Nat} {W W' : World} {v : Value} {l : List Prt} (h : Prts B W v l) (hb : Below W.heap.size W W') : Prts B W' v l := h.kept (T := fun _ => False) (St.of_below hb) fun _ _ q => q
theorem Prts.lt {B : Nat} {W : World} {v : Value} {l : List Prt} (h : Prts B W v l) (k : Nat) (hk : v.ownBlock = some k) : B ≤ k ∧ k < W.heap.size := World.ownsRow.lt h k hk
theorem Prts.lower {B B' : Nat} {W : World} {v : Value} {l : List Prt} (h : Prts B W v l) (hB : B' ≤ B) : Prts B' W v l :=
  ⟨h.1, h.2.elim .inl fun ⟨g, cap, cur, h1, h2, h3⟩ => .inr ⟨g, cap, cur, h1, by omega, h3⟩⟩
/-- The six cells of a part. -/
structure Six (W : World) (b o : Nat) (p : Prt) : Prop where
  c0 : W.cell? ⟨b, o, none⟩ = some (.int .i64 p.c)
  c1 : W.cell? ⟨b, o + 1, none⟩ = some (.int .i64 p.v0)
  c2 : W.cell? ⟨b, o + 2, none⟩ = some (.int .i64 p.v1)
  c3 : W.cell? ⟨b, o + 3, none⟩ = some (.int .i64 p.v2)
  c4 : W.cell? ⟨b, o + 4, none⟩ = some (.int .i64 p.v3)
  c5 : W.cell? ⟨b, o + 5, none⟩ = some (.int .i64 p.t)
theorem Six.later {W W' : World} {b o : Nat} {p : Prt} (h : Six W b o p) (hb : Below W.heap.size W W') : Six W' b o p :=
  ⟨At.seen hb (Nat.le_refl _) h.c0, At.seen hb (Nat.le_refl _) h.c1, At.seen hb (Nat.le_refl _) h.c2, At.seen hb (Nat.le_refl _) h.c3, At.seen hb (Nat.le_refl _) h.c4, At.seen hb (Nat.le_refl _) h.c5⟩
theorem six_blk {W : World} {b : Nat} {p : Prt} {e : TypeId} (h : W.heap[b]? = some (.cells p.arr e (0, 0))) : Six W b 0 p :=
  ⟨cell_blk h rfl, cell_blk h rfl, cell_blk h rfl, cell_blk h rfl, cell_blk h rfl, cell_blk h rfl⟩
/-- A row of parts that can be read. -/
def PRow (W : World) (v : Value) (l : List Prt) : Prop := ∃ a c, v = .slice a l.length c ∧ (l = [] ∨ ∃ b o, a = some ⟨b, o, none⟩ ∧ ∀ (j : Nat) p, l[j]? = some p → Six W b (o + j * 6) p)
theorem PRow.later {W W' : World} {v : Value} {l : List Prt} (h : PRow W v l) (hb : Below W.heap.size W W') : PRow W' v l := by
  obtain ⟨a, c, h1, h2⟩ := h
  refine ⟨a, c, h1, ?_⟩
  rcases h2 with h2 | ⟨b, o, h2, h3⟩
  · exact .inl h2
  · exact .inr ⟨b, o, h2, fun j p hj => (h3 j p hj).later hb⟩
theorem Prts.row {B : Nat} {W : World} {v : Value} {l : List Prt} (h : Prts B W v l) : PRow W v l := by
  obtain ⟨a, c, rfl⟩ := h.slice
  refine ⟨a, c, rfl, ?_⟩
  by_cases h0 : l = []
  · exact .inl h0
  · obtain ⟨g, rfl⟩ : ∃ g, a = some ⟨g, 0, none⟩ := by
      obtain ⟨g, cap', e, h1, h2⟩ := World.ownsRow.form h (List.length_pos_iff.2 h0)
      simp only [Value.slice.injEq, true_and] at e
      exact ⟨g, e.1⟩
    refine .inr ⟨g, 0, rfl, fun j p hj => ?_⟩
    have hlt := (List.getElem?_eq_some_iff.1 hj).1
    have A := pCells_at l j p hj
    have C : ∀ i, i < 6 → W.cell? ⟨g, j * 6 + i, none⟩ = p.arr[i]? := fun i hi => (World.ownsRow.cellAt h (j * 6 + i) (by omega)).trans (A i hi)
    rw [Nat.zero_add]
    exact ⟨C 0 (by decide), C 1 (by decide), C 2 (by decide), C 3 (by decide), C 4 (by decide), C 5 (by decide)⟩
theorem PRow.at {W : World} {a : Option Addr} {c : Nat} {l : List Prt} (h : PRow W (.slice a l.length c) l) {j : Nat} {p : Prt} (hj : l[j]? = some p) : ∃ b o, a = some ⟨b, o, none⟩ ∧ Six W b (o + j * 6) p := by
  obtain ⟨a', c', h1, h2⟩ := h
  obtain ⟨rfl, rfl⟩ : a = a' ∧ c = c' := by simpa using h1
  rcases h2 with h2 | ⟨b, o, h2, h3⟩
  · rw [h2] at hj; simp at hj
  · exact ⟨b, o, h2, h3 j p hj⟩
theorem prts_none (W : World) : Prts W.heap.size (W.alloc (.cells #[] 71)) (.slice (some ⟨W.heap.size, 0, none⟩) 0 0) [] :=
  World.ownsRow_lit (base := W.heap.size) (e := 71) (size := 6) W #[] 0 (Nat.le_refl _) (Nat.zero_le _) rfl
/-- append of one part. -/
theorem wpList_prt {ops : Array Oper} {rest : List Oper} {o : Oper} {a : Act} {Q : Exit → Act → World → Prop} (hgd : o.guard = none) (s x : Operand)
    (ho : o.op = .call { callee := .builtin .append, args := #[s, x], argTypes := #[37, 37] }) {B : Nat} {wc : World} {v : Value} {l : List Prt} {p : Prt} (hown : Prts B wc v l) (hl : l.length ≤ 1000) (hB : B ≤ wc.heap.size)
    (hs : a.eval s = v) (hx : a.eval x = .slice (some ⟨wc.heap.size, 0, none⟩) 1 1)
    (h : ∀ v' w2, Hid (Prts B w2 v' (l ++ [p])) → Hid (St (fun x => v.ownBlock = some x) wc w2) → wpList Tryz.prog ops Q rest (a.put o.dst v') w2) :
    wpList Tryz.prog ops Q (o :: rest) a (wc.alloc (.cells #[.int .i64 p.c, .int .i64 p.v0, .int .i64 p.v1, .int .i64 p.v2, .int .i64 p.v3, .int .i64 p.t] 71)) := by
  obtain ⟨i0, hi, hz0, hz1, hz2⟩ := info_parts infoPart
  have hb := bAl wc (.cells p.arr 71)
  have ho2 : (wc.alloc (.cells p.arr 71)).ownsRow B 71 6 v l.length (pCells l) := World.ownsRow.alloc hown _
  have hh := heap_alloc_new wc (.cells p.arr 71)
  refine wpList_append_lies _ hgd s x 37 ho B 71 i0 (.agg #[.int .i64 0, .int .i64 0, .int .i64 0, .int .i64 0, .int .i64 0, .int .i64 0]) 6 48 Tryz.underlying37 hi hz0 hz1 hz2 rfl (by decide) v l.length (pCells l) hs ho2 ⟨wc.heap.size, 0, none⟩ 1 1 p.arr.toList hx rfl (fun j u hu => by
    rw [add_at]
    exact cell_blk hh (by simpa using hu)) (by intro u hu; simp [Prt.arr] at hu; rcases hu with rfl | rfl | rfl | rfl | rfl | rfl <;> rfl) (by decide) (by unfold maxLen; omega) (by omega) (by simp; omega) (wc.heap.size + 1) (by simp) ?_
  intro g' cap w2 ow hg hat hlt
  refine h _ w2 ?_ ((St.of_below hb).trans (St.of_grown (S := fun x => v.ownBlock = some x) hg fun k e => e) fun _ _ q => q)
  show World.ownsRow _ _ _ _ _ _ _
  rw [pCells_snoc, List.length_append]
  exact ow
/-- Where a component is among parts. -/
def ix (l : List Prt) (comp : Int) : Nat := l.findIdx fun p => p.c == comp
def ixI (l : List Prt) (comp : Int) : Int := if ix l comp < l.length then (ix l comp : Int) else -1
theorem ix_hit {l : List Prt} {comp : Int} {k : Nat} {p : Prt} (hk : k ≤ ix l comp) (hp : l[k]? = some p) (hc : p.c = comp) : ix l comp = k := by
  obtain ⟨hl, rfl⟩ := List.getElem?_eq_some_iff.1 hp
  refine Nat.le_antisymm (Nat.le_of_not_lt fun q => ?_) hk
  have := List.not_of_lt_findIdx q
  simp [hc] at this
theorem ix_miss {l : List Prt} {comp : Int} {k : Nat} {p : Prt} (hk : k ≤ ix l comp) (hp : l[k]? = some p) (hc : ¬ p.c = comp) : k + 1 ≤ ix l comp := by
  obtain ⟨hl, rfl⟩ := List.getElem?_eq_some_iff.1 hp
  refine Nat.lt_of_le_of_ne hk fun e => ?_
  have hlt : List.findIdx (fun p : Prt => p.c == comp) l < l.length := by show ix l comp < _; omega
  have := List.findIdx_getElem (w := hlt)
  simp only [beq_iff_eq] at this
  have e' : List.findIdx (fun p : Prt => p.c == comp) l = k := e.symm
  simp only [e'] at this
  exact hc this
/-- A row with a part more: whether it is in, and what there is so far. -/
def wst (p : Prt) (l : List Prt) : Bool × List Prt := l.foldl (fun s x => if !s.1 && decide (p.c < x.c) then (true, s.2 ++ [p] ++ [x]) else (s.1, s.2 ++ [x])) (false, [])
def insP (l : List Prt) (p : Prt) : List Prt := if (wst p l).1 then (wst p l).2 else (wst p l).2 ++ [p]
theorem wst_next (p : Prt) {l : List Prt} {k : Nat} {x : Prt} (h : l[k]? = some x) : wst p (l.take (k + 1)) = if !(wst p (l.take k)).1 && decide (p.c < x.c) then (true, (wst p (l.take k)).2 ++ [p] ++ [x]) else ((wst p (l.take k)).1, (wst p (l.take k)).2 ++ [x]) := by
  obtain ⟨hl, rfl⟩ := List.getElem?_eq_some_iff.1 h
  unfold wst
  rw [List.take_succ_eq_append_getElem hl, List.foldl_append]
  rfl
theorem wst_len (p : Prt) (l : List Prt) : (wst p l).2.length = l.length + if (wst p l).1 then 1 else 0 := by
  suffices h : ∀ (l : List Prt) (s : Bool × List Prt), (l.foldl (fun s x => if !s.1 && decide (p.c < x.c) then (true, s.2 ++ [p] ++ [x]) else (s.1, s.2 ++ [x])) s).2.length + (if s.1 then 1 else 0) = s.2.length + l.length + if (l.foldl (fun s x => if !s.1 && decide (p.c < x.c) then (true, s.2 ++ [p] ++ [x]) else (s.1, s.2 ++ [x])) s).1 then 1 else 0 by
    have := h l (false, [])
    unfold wst
    simp only [List.length_nil, Bool.false_eq_true, if_false] at this
    omega
  intro l
  induction l with
  | nil => intro s; simp
  | cons x l ih =>
    intro s
    rw [List.foldl_cons]
    have := ih (if !s.1 && decide (p.c < x.c) then (true, s.2 ++ [p] ++ [x]) else (s.1, s.2 ++ [x]))
    obtain ⟨b, o⟩ := s
    cases b <;> by_cases hc : p.c < x.c <;> simp [hc] at this ⊢ <;> omega
end Go.Proofs.YtoafpfheopgdkaaGreatDoor.Rs
namespace Go.Proofs.YtoafpfheopgdkaaGreatDoor.Rs
open Go.RowKit Go.Shelf Go.Maps
open Go.Proofs.YtoafpfheopgdkaaGreatDoor.At (St bAl cell_blk blk_seen blk_free drewN_below an wi wo pow32 bits_or32 pow_le add balloc)
theorem bel_app {W1 wr w2 : World} {v : Value} {q : List Prt} {n : Nat} (hb : Below W1.heap.size W1 wr) (hp : Prts W1.heap.size wr v q) (hst : St (fun x => v.ownBlock = some x) (wr.drewN n) w2) : Below W1.heap.size W1 w2 := by
  have b1 := hb.trans ((drewN_below wr n).mono hb.size)
  exact b1.trans (hst.below (fun x hx => (hp.lt x hx).1) b1.size)
/-- The set of parts' components. -/
def mskP (l : List Prt) : Nat := l.foldl (fun m x => m ||| 2 ^ x.c.toNat) 0
def okC (l : List Prt) : Prop := ∀ x ∈ l, 0 ≤ x.c ∧ x.c < 16
theorem mskP_snoc (l : List Prt) (x : Prt) : mskP (l ++ [x]) = mskP l ||| 2 ^ x.c.toNat := by unfold mskP; rw [List.foldl_append]; rfl
theorem mskP_lt (l : List Prt) (h : okC l) : mskP l < 65536 := by
  suffices q : ∀ (l : List Prt) (m : Nat), m < 2 ^ 16 → (∀ x ∈ l, 0 ≤ x.c ∧ x.c < 16) → l.foldl (fun m x => m ||| 2 ^ x.c.toNat) m < 2 ^ 16 from q l 0 (by decide) h
  intro l
  induction l with
  | nil => intro m hm _; exact hm
  | cons x l ih =>
    intro m hm hl
    rw [List.foldl_cons]
    refine ih _ (Nat.or_lt_two_pow hm (Nat.pow_lt_pow_right (by decide) ?_)) fun y hy => hl y (List.mem_cons_of_mem _ hy)
    have := hl x List.mem_cons_self
    omega
end Go.Proofs.YtoafpfheopgdkaaGreatDoor.Rs
namespace Go.Proofs.YtoafpfheopgdkaaGreatDoor.Rs
open Go.RowKit Go.Shelf Go.Maps
open Go.Proofs.YtoafpfheopgdkaaGreatDoor.At (St bAl cell_blk blk_seen blk_free drewN_below an wi wo pow32 bits_or32 pow_le add balloc)
/-- The components' widths, to be read. -/
def WdRow (W : World) (v : Value) (ws : List Nat) : Prop := ∃ a c, v = .slice a ws.length c ∧ (ws = [] ∨ ∃ b o, a = some ⟨b, o, none⟩ ∧ ∀ (j : Nat) (x : Nat), ws[j]? = some x → W.cell? ⟨b, o + j * 7 + 1, none⟩ = some (.int .i64 (x : Int)))
theorem WdRow.later {W W' : World} {v : Value} {ws : List Nat} (h : WdRow W v ws) (hb : Below W.heap.size W W') : WdRow W' v ws := by
  obtain ⟨a, c, h1, h2⟩ := h
  refine ⟨a, c, h1, ?_⟩
  rcases h2 with h2 | ⟨b, o, h2, h3⟩
  · exact .inl h2
  · exact .inr ⟨b, o, h2, fun j p hj => At.seen hb (Nat.le_refl _) (h3 j p hj)⟩
def okW (ws : List Nat) : Prop := ws.length ≤ 16 ∧ ∀ w ∈ ws, 1 ≤ w ∧ w ≤ 4
def Prt.vals (p : Prt) : List Int := [p.v0, p.v1, p.v2, p.v3]
/-- Whether a part fits. -/
def fitP (ws : List Nat) (p : Prt) : Bool := decide (0 ≤ p.c) && match ws[p.c.toNat]? with
  | some w => (p.vals.drop w).all (· == 0)
  | none => false
theorem fit_out {ws : List Nat} {p : Prt} (h : p.c < 0 ∨ (ws.length : Int) ≤ p.c) : fitP ws p = false := by
  unfold fitP
  by_cases h0 : p.c < 0
  · rw [decide_eq_false (by omega)]; rfl
  · rw [List.getElem?_eq_none (by omega)]
    simp
theorem fit_in {ws : List Nat} {p : Prt} {n w : Nat} (hc : p.c = (n : Int)) (hw : ws[n]? = some w) : fitP ws p = (p.vals.drop w).all (· == 0) := by
  unfold fitP
  rw [hc, Int.toNat_natCast, hw]
  simp
theorem val_cell {W : World} {b k : Nat} {p : Prt} {e : TypeId} {x : Int} (h : W.heap[b]? = some (.cells p.arr e (0, 0))) (hx : p.vals[k]? = some x) : W.cell? ⟨b, 1 + k, none⟩ = some (.int .i64 x) := by
  refine cell_blk h ?_
  rw [Nat.add_comm]
  match k, hx with
  | 0, hx => simp [Prt.vals] at hx; subst hx; rfl
  | 1, hx => simp [Prt.vals] at hx; subst hx; rfl
  | 2, hx => simp [Prt.vals] at hx; subst hx; rfl
  | 3, hx => simp [Prt.vals] at hx; subst hx; rfl
  | k + 4, hx => simp [Prt.vals] at hx
theorem all_next {l : List Int} {w k : Nat} {x : Int} (hw : w ≤ k) (hx : l[k]? = some x) : (l.drop w).all (· == 0) = (((l.take k).drop w).all (· == 0) && ((x == 0) && (l.drop (k + 1)).all (· == 0))) := by
  obtain ⟨hl, rfl⟩ := List.getElem?_eq_some_iff.1 hx
  have e : l.drop w = (l.take k).drop w ++ l[k] :: l.drop (k + 1) := by
    have h1 : l = l.take k ++ l[k] :: l.drop (k + 1) := by
      rw [← List.drop_eq_getElem_cons hl, List.take_append_drop]
    have hlen : (l.take k).length = k := by simp; omega
    calc l.drop w = (l.take k ++ l[k] :: l.drop (k + 1)).drop w := by rw [← h1]
      _ = (l.take k).drop w ++ l[k] :: l.drop (k + 1) := by rw [List.drop_append_of_le_length (by omega)]
  rw [e, List.all_append, List.all_cons]
end Go.Proofs.YtoafpfheopgdkaaGreatDoor.Rs
namespace Go.Proofs.YtoafpfheopgdkaaGreatDoor.Rs
open Go.RowKit Go.Shelf Go.Maps
open Go.Proofs.YtoafpfheopgdkaaGreatDoor.At (St bAl cell_blk blk_seen blk_free drewN_below an wi wo pow32 bits_or32 pow_le add balloc)
theorem st_ro {S : Nat → Prop} {a b : World} (h : St S a b) : Ro.St S a b := ⟨h.os, h.tape, h.output, h.size, h.block⟩
theorem ro_st {S : Nat → Prop} {a b : World} (h : Ro.St S a b) : St S a b := ⟨h.os, h.tape, h.output, h.size, h.block⟩
/-- What the document's store holds. -/
structure SD where
  ws : List Nat
  r : Ro.RS
  p : List (List Prt)
  sets : List Nat
/-- Widths in a block below B. -/
def WdLow (B : Nat) (W : World) (v : Value) (ws : List Nat) : Prop := ∃ a c, v = .slice a ws.length c ∧ (ws = [] ∨ ∃ b o, a = some ⟨b, o, none⟩ ∧ b < B ∧ ∀ (j : Nat) (x : Nat), ws[j]? = some x → W.cell? ⟨b, o + j * 7 + 1, none⟩ = some (.int .i64 (x : Int)))
theorem WdLow.row {B : Nat} {W : World} {v : Value} {ws : List Nat} (h : WdLow B W v ws) : WdRow W v ws := by
  obtain ⟨a, c, h1, h2⟩ := h
  refine ⟨a, c, h1, ?_⟩
  rcases h2 with h2 | ⟨b, o, h2, -, h3⟩
  · exact .inl h2
  · exact .inr ⟨b, o, h2, h3⟩
theorem WdLow.move {B : Nat} {W W' : World} {v : Value} {ws : List Nat} (h : WdLow B W v ws) (hb : Below B W W') : WdLow B W' v ws := by
  obtain ⟨a, c, h1, h2⟩ := h
  refine ⟨a, c, h1, ?_⟩
  rcases h2 with h2 | ⟨b, o, h2, h0, h3⟩
  · exact .inl h2
  · exact .inr ⟨b, o, h2, h0, fun j x hx => (hb.cell (p := ⟨b, o + j * 7 + 1, none⟩) h0).trans (h3 j x hx)⟩
/-- Where the store's pieces lie. -/
structure SV where
  va : Value
  vb : Value
  rb : Nat
  gb : Nat
  ib : Nat
  fv : Value
  t : Nat
  pv : List Value
  sv : Value
def SV.cells (x : SV) : List Value := x.va :: x.vb :: .pointer (some ⟨x.rb, 0, none⟩) :: (x.pv ++ [x.sv])
/-- The store's blocks. -/
def SV.fp (x : SV) (ub k : Nat) : Prop := k = ub ∨ Ro.Fu x.rb x.gb x.ib x.fv k ∨ (∃ v ∈ x.pv, v.ownBlock = some k) ∨ x.sv.ownBlock = some k
/-- A row of parts that a store can hold: by rising components, each of which there is. -/
def okL (ws : List Nat) (l : List Prt) : Prop := l.Pairwise (fun x y => x.c < y.c) ∧ ∀ x ∈ l, 0 ≤ x.c ∧ x.c < (ws.length : Int)
theorem Prts.blk {B : Nat} {W : World} {v : Value} {l : List Prt} (h : Prts B W v l) {k : Nat} (hk : v.ownBlock = some k) : ∃ c fr, W.heap[k]? = some (.cells c 71 fr) := by
  rcases h.2 with ⟨h1, -⟩ | ⟨g, cap, cur, h1, h2, h3, h4⟩
  · rw [h1] at hk; simp [Value.ownBlock] at hk
  · rw [h1] at hk
    obtain rfl : g = k := by simpa [Value.ownBlock] using hk
    exact ⟨_, _, h3⟩
theorem msk_blk {B : Nat} {W : World} {v : Value} {l : List Nat} (h : At.Msk B W v l) {k : Nat} (hk : v.ownBlock = some k) : ∃ c fr, W.heap[k]? = some (.cells c 24 fr) := by
  rcases h.2 with ⟨h1, -⟩ | ⟨g, cap, cur, h1, h2, h3, h4⟩
  · rw [h1] at hk; simp [Value.ownBlock] at hk
  · rw [h1] at hk
    obtain rfl : g = k := by simpa [Value.ownBlock] using hk
    exact ⟨_, _, h3⟩
theorem int_blk {B : Nat} {W : World} {v : Value} {n : Nat} {l : List Value} (h : W.ownsRow B 3 1 v n l) {k : Nat} (hk : v.ownBlock = some k) : ∃ c fr, W.heap[k]? = some (.cells c 3 fr) := by
  rcases h.2 with ⟨h1, -⟩ | ⟨g, cap, cur, h1, h2, h3, h4⟩
  · rw [h1] at hk; simp [Value.ownBlock] at hk
  · rw [h1] at hk
    obtain rfl : g = k := by simpa [Value.ownBlock] using hk
    exact ⟨_, _, h3⟩
section
variable {B : Nat} {W W' : World} {ub : Nat} {x : SV} {s : SD}
end
end Go.Proofs.YtoafpfheopgdkaaGreatDoor.Rs
namespace Go.Proofs.YtoafpfheopgdkaaGreatDoor.Rs
open Go.RowKit Go.Shelf Go.Maps
open Go.Proofs.YtoafpfheopgdkaaGreatDoor.At (St bAl cell_blk blk_seen blk_free drewN_below an wi wo pow32 bits_or32 pow_le add balloc)
section
variable {B : Nat} {W0 W W' : World} {ub : Nat} {x : SV} {s : SD}
end
/-- A set that there was. -/
def SD.noted (s : SD) (m : Nat) : SD := { s with sets := add s.sets m }
end Go.Proofs.YtoafpfheopgdkaaGreatDoor.Rs
namespace Go.Proofs.YtoafpfheopgdkaaGreatDoor.Rs
open Go.RowKit Go.Shelf Go.Maps
open Go.Proofs.YtoafpfheopgdkaaGreatDoor.At (St bAl cell_blk blk_seen blk_free drewN_below an wi wo pow32 bits_or32 pow_le add balloc)
/-- The parts of a place. -/
def SD.at (s : SD) (k : Nat) : List Prt := s.p.getD k []
section
variable {B : Nat} {W W' : World} {ub : Nat} {x : SV} {s : SD}
theorem alive_lt {r : Ro.RS} {i g : Int} (h : r.aliveB i g = true) : ∃ k : Nat, i = (k : Int) ∧ k < r.gens.length := by
  obtain ⟨h0, _, _, d⟩ := (Ro.RS.aliveB_iff _ _ _).1 h
  obtain ⟨k, rfl⟩ := Int.eq_ofNat_of_zero_le h0
  exact ⟨k, rfl, by simpa using (List.getElem?_eq_some_iff.1 d).1⟩
end
theorem okL_few {ws : List Nat} {l : List Prt} (h : okL ws l) (hw : ws.length ≤ 16) : l.length ≤ 16 := by
  suffices q : ∀ (l : List Prt) (n : Nat), l.Pairwise (fun x y => x.c < y.c) → (∀ x ∈ l, (n : Int) ≤ x.c ∧ x.c < 16) → n ≤ 16 → l.length + n ≤ 16 from by
    have := q l 0 h.1 (fun x hx => ⟨(h.2 x hx).1, by have := (h.2 x hx).2; omega⟩) (by omega)
    omega
  intro l
  induction l with
  | nil => intro n _ _ hn; simpa using hn
  | cons y l ih =>
    intro n hp hb hn
    rw [List.pairwise_cons] at hp
    have hy := hb y List.mem_cons_self
    have := ih (n + 1) hp.2 (fun z hz => ⟨by have := hp.1 z hz; have := hy.1; omega, (hb z (List.mem_cons_of_mem _ hz)).2⟩) (by omega)
    simp only [List.length_cons]
    omega
theorem okL_okC {ws : List Nat} {l : List Prt} (h : okL ws l) (hw : ws.length ≤ 16) : okC l := fun x hx => ⟨(h.2 x hx).1, by have := (h.2 x hx).2; omega⟩
/-- What Get tells. -/
def SD.get (s : SD) (i g comp : Int) : Prt × Int := if s.r.aliveB i g then (match (s.at i.toNat)[ix (s.at i.toNat) comp]? with
  | some p => (p, 0)
  | none => (Prt.zero, 7)) else (Prt.zero, 17)
/-- A part's cells set anew. -/
def six (w : World) (b : Nat) (p : Prt) : World := (((((w.setCell ⟨b, 0, none⟩ (.int .i64 p.c)).setCell ⟨b, 1, none⟩ (.int .i64 p.v0)).setCell ⟨b, 2, none⟩ (.int .i64 p.v1)).setCell ⟨b, 3, none⟩ (.int .i64 p.v2)).setCell ⟨b, 4, none⟩ (.int .i64 p.v3)).setCell ⟨b, 5, none⟩ (.int .i64 p.t)
theorem six_set {w : World} {b : Nat} {q p : Prt} {e : TypeId} (h : w.heap[b]? = some (.cells q.arr e (0, 0))) : (six w b p).heap[b]? = some (.cells p.arr e (0, 0)) ∧ ∀ B, B ≤ b → Below B w (six w b p) := by
  have h1 := heap_setCell_same w b 0 _ e (.int .i64 p.c) h
  have h2 := heap_setCell_same _ b 1 _ e (.int .i64 p.v0) h1
  have h3 := heap_setCell_same _ b 2 _ e (.int .i64 p.v1) h2
  have h4 := heap_setCell_same _ b 3 _ e (.int .i64 p.v2) h3
  have h5 := heap_setCell_same _ b 4 _ e (.int .i64 p.v3) h4
  have h6 := heap_setCell_same _ b 5 _ e (.int .i64 p.t) h5
  refine ⟨h6, fun B hB => ?_⟩
  have c := fun (w : World) (j : Nat) (v : Value) => St.setCell (S := fun k => k = b) (a := w) (p := ⟨b, j, none⟩) v rfl
  have st : St (fun k => k = b) w (six w b p) := (((((c w 0 _).trans (c _ 1 _) fun _ _ q => q).trans (c _ 2 _) fun _ _ q => q).trans (c _ 3 _) fun _ _ q => q).trans (c _ 4 _) fun _ _ q => q).trans (c _ 5 _) fun _ _ q => q
  exact st.below (fun k hk => hk ▸ hB) (Nat.le_trans hB (Nat.le_of_lt (Array.getElem?_eq_some_iff.1 h).1))
theorem two_blk (W : World) (a b : Array Value) (e f : TypeId) : Below W.heap.size W ((W.alloc (.cells a e)).alloc (.cells b f)) ∧ ((W.alloc (.cells a e)).alloc (.cells b f)).heap[W.heap.size]? = some (.cells a e (0, 0)) ∧ ((W.alloc (.cells a e)).alloc (.cells b f)).heap[W.heap.size + 1]? = some (.cells b f (0, 0)) := by
  refine ⟨(bAl W _).alloc (by simp) _, (Below.heap_alloc _ _ _ (by simp)).trans (heap_alloc_new W _), ?_⟩
  have := heap_alloc_new (W.alloc (.cells a e)) (.cells b f)
  rw [World.size_alloc] at this
  exact this
end Go.Proofs.YtoafpfheopgdkaaGreatDoor.Rs
namespace Go.Proofs.YtoafpfheopgdkaaGreatDoor.Rs
open Go.RowKit Go.Shelf Go.Maps
open Go.Proofs.YtoafpfheopgdkaaGreatDoor.At (St bAl cell_blk blk_seen blk_free drewN_below an wi wo pow32 bits_or32 pow_le add balloc)
end Go.Proofs.YtoafpfheopgdkaaGreatDoor.Rs
namespace Go.Proofs.YtoafpfheopgdkaaGreatDoor.Rs
open Go.RowKit Go.Shelf Go.Maps
open Go.Proofs.YtoafpfheopgdkaaGreatDoor.At (St bAl cell_blk blk_seen blk_free drewN_below an wi wo pow32 bits_or32 pow_le add balloc)
/-- A row with a part more. -/
def insr (p : Prt) : List Prt → List Prt
  | [] => [p]
  | x :: l => if p.c < x.c then p :: x :: l else x :: insr p l
theorem insP_rec (l : List Prt) (p : Prt) : insP l p = insr p l := by
  have A : ∀ (l acc : List Prt), l.foldl (fun s x => if !s.1 && decide (p.c < x.c) then (true, s.2 ++ [p] ++ [x]) else (s.1, s.2 ++ [x])) (true, acc) = ((true, acc ++ l) : Bool × List Prt) := by
    intro l
    induction l with
    | nil => intro acc; simp
    | cons x l ih =>
      intro acc
      rw [List.foldl_cons]
      show List.foldl _ (true, acc ++ [x]) l = _
      rw [ih]
      simp
  have C : ∀ (l acc : List Prt) (r : Bool × List Prt), l.foldl (fun s x => if !s.1 && decide (p.c < x.c) then (true, s.2 ++ [p] ++ [x]) else (s.1, s.2 ++ [x])) (false, acc) = r → (if r.1 then r.2 else r.2 ++ [p]) = acc ++ insr p l := by
    intro l
    induction l with
    | nil => intro acc r h; simp at h; subst h; simp [insr]
    | cons x l ih =>
      intro acc r h
      rw [List.foldl_cons] at h
      by_cases hc : p.c < x.c
      · simp only [hc, Bool.not_false, decide_true, Bool.and_self, if_true, A] at h
        subst h
        simp [insr, hc]
      · simp only [hc, decide_false, Bool.and_false, Bool.false_eq_true, if_false] at h
        rw [ih _ r h]
        simp [insr, hc]
  have := C l [] (wst p l) rfl
  simpa [insP] using this
theorem mem_insr {p y : Prt} : ∀ {l : List Prt}, y ∈ insr p l ↔ y = p ∨ y ∈ l := by
  intro l
  induction l with
  | nil => simp [insr]
  | cons x l ih =>
    unfold insr
    split
    · simp
    · rw [List.mem_cons, ih, List.mem_cons]
      constructor
      · rintro (h | h | h)
        · exact .inr (.inl h)
        · exact .inl h
        · exact .inr (.inr h)
      · rintro (h | h | h)
        · exact .inr (.inl h)
        · exact .inl h
        · exact .inr (.inr h)
theorem insr_sorted {p : Prt} : ∀ {l : List Prt}, l.Pairwise (fun x y => x.c < y.c) → (∀ x ∈ l, x.c ≠ p.c) → (insr p l).Pairwise (fun x y => x.c < y.c) := by
  intro l
  induction l with
  | nil => intro _ _; simp [insr]
  | cons x l ih =>
    intro h hn
    have h' := List.pairwise_cons.1 h
    unfold insr
    split
    · rename_i hc
      refine List.pairwise_cons.2 ⟨fun y hy => ?_, h⟩
      rcases List.mem_cons.1 hy with rfl | hy
      · exact hc
      · have := h'.1 y hy; omega
    · rename_i hc
      refine List.pairwise_cons.2 ⟨fun y hy => ?_, ih h'.2 fun z hz => hn z (List.mem_cons_of_mem _ hz)⟩
      rcases mem_insr.1 hy with rfl | hy
      · have := hn x List.mem_cons_self; omega
      · exact h'.1 y hy
theorem ix_absent {l : List Prt} {comp : Int} (h : l.length ≤ ix l comp) : ∀ x ∈ l, x.c ≠ comp := by
  intro x hx e
  have : ix l comp < l.length := List.findIdx_lt_length_of_exists ⟨x, hx, by simp [e]⟩
  omega
theorem fit_range {ws : List Nat} {p : Prt} (h : fitP ws p = true) : 0 ≤ p.c ∧ p.c < (ws.length : Int) := by
  by_cases q : p.c < 0 ∨ (ws.length : Int) ≤ p.c
  · rw [fit_out q] at h; simp at h
  · omega
theorem okL.ins {ws : List Nat} {l : List Prt} {p : Prt} (h : okL ws l) (hf : fitP ws p = true) (hx : ∀ x ∈ l, x.c ≠ p.c) : okL ws (insP l p) := by
  rw [insP_rec]
  refine ⟨insr_sorted h.1 hx, fun y hy => ?_⟩
  rcases mem_insr.1 hy with rfl | hy
  · exact fit_range hf
  · exact h.2 y hy
/-- A row without a component. -/
def remP (l : List Prt) (comp : Int) : List Prt := l.filter fun x => !(x.c == comp)
theorem okL.rem {ws : List Nat} {l : List Prt} (h : okL ws l) (comp : Int) : okL ws (remP l comp) := ⟨h.1.filter _, fun y hy => h.2 y (List.mem_filter.1 hy).1⟩
theorem remP_no (l : List Prt) (comp : Int) : ∀ x ∈ remP l comp, x.c ≠ comp := fun x hx e => by
  have := (List.mem_filter.1 hx).2
  simp [e] at this
theorem insP_len (l : List Prt) (p : Prt) : (insP l p).length = l.length + 1 := by
  rw [insP_rec]
  induction l with
  | nil => rfl
  | cons x l ih => unfold insr; split <;> simp [ih]
end Go.Proofs.YtoafpfheopgdkaaGreatDoor.Rs
namespace Go.Proofs.YtoafpfheopgdkaaGreatDoor.Rs
open Go.RowKit Go.Shelf Go.Maps
open Go.Proofs.YtoafpfheopgdkaaGreatDoor.At (St bAl cell_blk blk_seen blk_free drewN_below an wi wo pow32 bits_or32 pow_le add balloc)
/-- What Insert comes to. -/
def SD.rowed (s : SD) (k : Nat) (l : List Prt) : SD := { s with p := s.p.set k l }
def SD.ins (s : SD) (i g : Int) (p : Prt) : Int × SD :=
  if s.r.aliveB i g then if fitP s.ws p then if ix (s.at i.toNat) p.c < (s.at i.toNat).length then (9, s) else (0, (s.rowed i.toNat (insP (s.at i.toNat) p)).noted (mskP (insP (s.at i.toNat) p))) else (1, s) else (17, s)
section
variable {B : Nat} {W w w' : World} {ub : Nat} {x : SV} {s : SD} {i g : Int} {p : Prt}
/-- The cells that are read. -/
def Cells (W : World) (ub : Nat) (x : SV) (i g : Int) (p : Prt) (w : World) : Prop :=
  w.cell? ⟨ub, 0, none⟩ = some x.va ∧ w.cell? ⟨ub, 1, none⟩ = some x.vb ∧ w.cell? ⟨ub, 2, none⟩ = some (.pointer (some ⟨x.rb, 0, none⟩)) ∧ w.cell? ⟨W.heap.size, 0, none⟩ = some (.int .i64 i) ∧ w.cell? ⟨W.heap.size, 1, none⟩ = some (.int .i64 g) ∧
  w.cell? ⟨W.heap.size + 1, 0, none⟩ = some (.int .i64 p.c) ∧ w.cell? ⟨W.heap.size + 1, 1, none⟩ = some (.int .i64 p.v0) ∧ w.cell? ⟨W.heap.size + 1, 2, none⟩ = some (.int .i64 p.v1) ∧ w.cell? ⟨W.heap.size + 1, 3, none⟩ = some (.int .i64 p.v2) ∧ w.cell? ⟨W.heap.size + 1, 4, none⟩ = some (.int .i64 p.v3) ∧ w.cell? ⟨W.heap.size + 1, 5, none⟩ = some (.int .i64 p.t)
end
end Go.Proofs.YtoafpfheopgdkaaGreatDoor.Rs
namespace Go.Proofs.YtoafpfheopgdkaaGreatDoor.So
open Go.RowKit Go.Shelf Go.Maps
open Go.Proofs.YtoafpfheopgdkaaGreatDoor.Co (I64 Pt)
open Go.Proofs.YtoafpfheopgdkaaGreatDoor.At (lst lst_mem an wi wo add)
open Go.Proofs.YtoafpfheopgdkaaGreatDoor.Rs (Prt SD okL okW okC fitP mskP mskP_snoc insP insr insP_rec mem_insr remP ix)
theorem ext_key {α : Type} (key : α → Nat) : ∀ {l m : List α}, l.Pairwise (fun x y => key x < key y) → m.Pairwise (fun x y => key x < key y) → (∀ x, x ∈ l ↔ x ∈ m) → l = m := by
  intro l
  induction l with
  | nil =>
    intro m _ _ h
    cases m with
    | nil => rfl
    | cons b t => exact absurd ((h b).2 (by simp)) (by simp)
  | cons a l ih =>
    intro m hl hm h
    cases m with
    | nil => exact absurd ((h a).1 (by simp)) (by simp)
    | cons b t =>
      rw [List.pairwise_cons] at hl hm
      have e : a = b := by
        rcases List.mem_cons.1 ((h a).1 (by simp)) with q | q
        · exact q
        · rcases List.mem_cons.1 ((h b).2 (by simp)) with q' | q'
          · exact q'.symm
          · have := hm.1 a q
            have := hl.1 b q'
            omega
      subst e
      rw [ih hl.2 hm.2 fun x => ?_]
      constructor
      · intro hx
        rcases List.mem_cons.1 ((h x).1 (by simp [hx])) with q | q
        · subst q; have := hl.1 x hx; omega
        · exact q
      · intro hx
        rcases List.mem_cons.1 ((h x).2 (by simp [hx])) with q | q
        · subst q; have := hm.1 x hx; omega
        · exact q
theorem lst_sorted (m : Nat) : ∀ k, (lst k m).Pairwise (· < ·)
  | 0 => by simp [lst]
  | k + 1 => by
    have ih := lst_sorted m k
    unfold lst
    split
    · rw [List.pairwise_append]
      refine ⟨ih, by simp, fun a ha b hb => ?_⟩
      have := ((lst_mem m a k).1 ha).1
      simp at hb
      omega
    · exact ih
/-- A part without its component. -/
def pt (p : Prt) : Pt := ⟨p.v0, p.v1, p.v2, p.v3, p.t⟩
def mk (c : Nat) (q : Pt) : Prt := ⟨(c : Int), q.a, q.b, q.c, q.d, q.t⟩
theorem mk_val (c : Nat) (q : Pt) : (mk c q).val = q.val (c : Int) := rfl
theorem pt_val (p : Prt) : p.val = (pt p).val p.c := rfl
theorem mk_pt {p : Prt} {c : Nat} (h : p.c = (c : Int)) : mk c (pt p) = p := by
  cases p; simp at h; subst h; rfl
theorem pt_mk (c : Nat) (q : Pt) : pt (mk c q) = q := rfl
/-- The part of a component. -/
def ptAt (l : List Prt) (c : Nat) : Pt := match l.find? (fun x => x.c == (c : Int)) with
  | some p => pt p
  | none => Pt.zero
/-- No component twice. -/
def Apart (l : List Prt) : Prop := l.Pairwise (fun x y => x.c ≠ y.c)
theorem okL_apart {ws : List Nat} {l : List Prt} (h : okL ws l) : Apart l := h.1.imp fun q e => by omega
theorem find_apart {l : List Prt} (h : Apart l) {p : Prt} (hp : p ∈ l) : l.find? (fun x => x.c == p.c) = some p := by
  induction l with
  | nil => simp at hp
  | cons a l ih =>
    rw [Apart, List.pairwise_cons] at h
    rcases List.mem_cons.1 hp with rfl | hp'
    · simp
    · have := h.1 p hp'
      rw [List.find?_cons_of_neg (by simpa using this)]
      exact ih h.2 hp'
theorem ptAt_mem {l : List Prt} (h : Apart l) {p : Prt} (hp : p ∈ l) {c : Nat} (hc : p.c = (c : Int)) : ptAt l c = pt p := by
  unfold ptAt
  rw [← hc, find_apart h hp]
theorem apart_perm {l l' : List Prt} (h : Apart l) (hp : l.Perm l') : Apart l' := (hp.pairwise_iff (fun q => Ne.symm q)).1 h
theorem find_none {l : List Prt} {c : Int} (h : ∀ x ∈ l, x.c ≠ c) : l.find? (fun x => x.c == c) = none := by
  rw [List.find?_eq_none]
  intro x hx
  simpa using h x hx
theorem ptAt_perm {l l' : List Prt} (h : Apart l) (hp : l.Perm l') (c : Nat) : ptAt l c = ptAt l' c := by
  by_cases e : ∃ x ∈ l, x.c = (c : Int)
  · obtain ⟨x, hx, hc⟩ := e
    rw [ptAt_mem h hx hc, ptAt_mem (apart_perm h hp) (hp.mem_iff.1 hx) hc]
  · unfold ptAt
    rw [find_none fun x hx q => e ⟨x, hx, q⟩, find_none fun x hx q => e ⟨x, hp.mem_iff.2 hx, q⟩]
/-- Components that there can be. -/
def Pos (l : List Prt) : Prop := ∀ x ∈ l, 0 ≤ x.c
theorem fold_bit (c : Nat) : ∀ (l : List Prt) (m : Nat), (l.foldl (fun m x => m ||| 2 ^ x.c.toNat) m).testBit c = (m.testBit c || l.any fun x => x.c.toNat == c) := by
  intro l
  induction l with
  | nil => intro m; simp
  | cons a l ih =>
    intro m
    rw [List.foldl_cons, ih, Nat.testBit_or, Nat.testBit_two_pow, List.any_cons, Bool.or_assoc]
    congr 2
theorem msk_bit (l : List Prt) (c : Nat) : (mskP l).testBit c = l.any fun x => x.c.toNat == c := by
  unfold mskP
  rw [fold_bit]
  simp
theorem msk_mem {l : List Prt} (h : Pos l) (c : Nat) : (mskP l).testBit c = true ↔ ∃ x ∈ l, x.c = (c : Int) := by
  rw [msk_bit, List.any_eq_true]
  constructor
  · rintro ⟨x, hx, e⟩
    have := h x hx
    exact ⟨x, hx, by simp at e; omega⟩
  · rintro ⟨x, hx, e⟩
    exact ⟨x, hx, by simp; omega⟩
theorem eq_bits {a b : Nat} (h : ∀ i, a.testBit i = b.testBit i) : a = b := Nat.eq_of_testBit_eq h
theorem msk_perm {l l' : List Prt} (hp : l.Perm l') : mskP l = mskP l' := by
  apply eq_bits
  intro i
  rw [msk_bit, msk_bit, Bool.eq_iff_iff, List.any_eq_true, List.any_eq_true]
  constructor
  · rintro ⟨x, hx, e⟩; exact ⟨x, hp.mem_iff.1 hx, e⟩
  · rintro ⟨x, hx, e⟩; exact ⟨x, hp.mem_iff.2 hx, e⟩
theorem okL_pos {ws : List Nat} {l : List Prt} (h : okL ws l) : Pos l := fun x hx => (h.2 x hx).1
theorem msk_lt {ws : List Nat} {l : List Prt} (h : ∀ x ∈ l, 0 ≤ x.c ∧ x.c < (ws.length : Int)) : mskP l < 2 ^ ws.length := by
  apply At.lt_of_bits
  intro i hi
  rw [Bool.eq_false_iff]
  intro q
  obtain ⟨x, hx, e⟩ := (msk_mem (fun x hx => (h x hx).1) i).1 q
  have := (h x hx).2
  omega
/-- The parts of a row, found by their components. -/
theorem parts_back {ws : List Nat} {l : List Prt} (h : okL ws l) (hw : ws.length ≤ 16) : (lst 32 (mskP l)).map (fun c => mk c (ptAt l c)) = l := by
  refine ext_key (fun x => x.c.toNat) ?_ ?_ ?_
  · rw [List.pairwise_map]
    exact (lst_sorted _ 32).imp fun q => by simpa [mk] using q
  · refine List.Pairwise.imp_of_mem ?_ h.1
    intro a b ha hb q
    have := (h.2 a ha).1
    omega
  · intro x
    rw [List.mem_map]
    constructor
    · rintro ⟨c, hc, rfl⟩
      obtain ⟨y, hy, e⟩ := (msk_mem (okL_pos h) c).1 ((lst_mem _ _ _).1 hc).2
      rw [ptAt_mem (okL_apart h) hy e, mk_pt e]
      exact hy
    · intro hx
      have h1 := h.2 x hx
      refine ⟨x.c.toNat, (lst_mem _ _ _).2 ⟨by omega, (msk_mem (okL_pos h) _).2 ⟨x, hx, by omega⟩⟩, ?_⟩
      rw [ptAt_mem (okL_apart h) hx (by omega), mk_pt (by omega)]
end Go.Proofs.YtoafpfheopgdkaaGreatDoor.So
