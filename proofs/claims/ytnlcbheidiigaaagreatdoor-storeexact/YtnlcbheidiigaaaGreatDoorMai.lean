/- A part of StoreExact. -/
import Derived.Test.YtnlcbheidiigaaaGreatDoorMah
namespace Go.Proofs.YtnlcbheidiigaaaGreatDoor
namespace So
open Go.RowKit Go.Shelf Go.Maps
open Co (Pt Col CS lies put6_blk put6_st put6)
open At (St bAl blk_seen)
section
variable {B : Nat} {W : World} {rb : Nat} {s : CS} {S : Nat → Prop}
set_option maxHeartbeats 1600000 in
set_option maxRecDepth 100000 in
theorem take1_any (h : Col B W rb s S) (n : Nat) (p : Pt) (hp : s.rows[n]? = some p) (pl : Pt) (hpl : s.rows[s.rows.length - 1]? = some pl) (xb : Nat) (hx : W.cell? ⟨xb, 0, none⟩ = some (.int .i64 (n : Int))) :
  Calls Tryz.prog 140 #[.pointer (some ⟨rb, 0, none⟩), .pointer (some ⟨xb, 0, none⟩)] W fun e W' => e = .returned (.tuple #[p.val s.comp, .nilIface]) ∧ Col B W' rb (s.taken n pl) S ∧ Co.St S W W' := by
 obtain ⟨W1, hW1⟩ : ∃ W1, W1 = W.alloc (.cells #[.int .i64 0, .int .i64 0, .int .i64 0, .int .i64 0, .int .i64 0, .int .i64 0] 47) := ⟨_, rfl⟩
 have b1 : Below W.heap.size W W1 := by rw [hW1]; exact bAl _ _
 have r1 : W1.heap[W.heap.size]? = some (.cells (Pt.zero.arr 0) 47 (0, 0)) := by rw [hW1]; exact heap_alloc_new W _
 have x1 : W1.cell? ⟨xb, 0, none⟩ = some (.int .i64 (n : Int)) := At.seen b1 (Nat.le_refl _) hx
 have TK := hid (Co.col_take (h.later b1) n p hp pl hpl)
 have HLT := hid (fun k hk => (h.lt k hk).2)
 have HW1 := hid hW1
 have B1 := hid b1
 have R1 := hid r1
 unfold Pt.val at TK ⊢
 generalize s.comp = cm at *
 clear h hp hpl hx b1 hW1 r1
 go_enter Tryz.func140, Tryz.ntmps140
 go_upto_region 1 with fail
 rw [← HW1.out]
 go_wp2_with fail
 refine TK.out.mono ?_
 rintro e w2 ⟨rfl, hc, hs⟩
 have C2 := hid hc
 have S2 := hid hs
 have r2 : w2.heap[W.heap.size]? = some (.cells (Pt.zero.arr 0) 47 (0, 0)) := hs.at R1.out fun q => by have := HLT.out _ q; omega
 have R2 := hid r2
 obtain ⟨x0, x1, x2, x3, x4, x5, f0, f1, f2, f3, f4, f5⟩ := lies r2
 clear hc hs r2 TK
 go_wp2_with fail
 have PB := put6_blk R2.out rfl cm p
 have PS := put6_st w2 W.heap.size cm p
 unfold put6 at PB PS
 obtain ⟨d0, d1, d2, d3, d4, d5, -, -, -, -, -, -⟩ := lies PB
 generalize (((((w2.setCell ⟨W.heap.size, 0, none⟩ (.int .i64 cm)).setCell ⟨W.heap.size, 1, none⟩ (.int .i64 p.a)).setCell ⟨W.heap.size, 2, none⟩ (.int .i64 p.b)).setCell ⟨W.heap.size, 3, none⟩ (.int .i64 p.c)).setCell ⟨W.heap.size, 4, none⟩ (.int .i64 p.d)).setCell ⟨W.heap.size, 5, none⟩ (.int .i64 p.t) = w3 at *
 refine bodyPost_ret (v := .tuple #[.agg #[.int .i64 cm, .int .i64 p.a, .int .i64 p.b, .int .i64 p.c, .int .i64 p.d, .int .i64 p.t], .nilIface]) (by simp [results, Tryz.results140, go_sem, d0, d1, d2, d3, d4, d5]) rfl ⟨rfl, C2.out.kept PS fun k hk e => ?_, ?_⟩
 ·have := HLT.out k hk; omega
 ·exact ((Co.St.of_below (S := S) B1.out).trans S2.out fun _ _ q => q).trans PS fun k hk e => by omega
set_option maxHeartbeats 1600000 in
set_option maxRecDepth 100000 in
theorem row1_any (h : Col B W rb s S) (n : Nat) (p : Pt) (hp : s.rows[n]? = some p) (xb : Nat) (hx : W.cell? ⟨xb, 0, none⟩ = some (.int .i64 (n : Int))) :
  Calls Tryz.prog 97 #[.pointer (some ⟨rb, 0, none⟩), .pointer (some ⟨xb, 0, none⟩)] W fun e W' => e = .returned (.tuple #[p.val s.comp, .nilIface]) ∧ Below W.heap.size W W' := by
 obtain ⟨W1, hW1⟩ : ∃ W1, W1 = W.alloc (.cells #[.int .i64 0, .int .i64 0, .int .i64 0, .int .i64 0, .int .i64 0, .int .i64 0] 47) := ⟨_, rfl⟩
 have b1 : Below W.heap.size W W1 := by rw [hW1]; exact bAl _ _
 have r1 : W1.heap[W.heap.size]? = some (.cells (Pt.zero.arr 0) 47 (0, 0)) := by rw [hW1]; exact heap_alloc_new W _
 have x1 : W1.cell? ⟨xb, 0, none⟩ = some (.int .i64 (n : Int)) := At.seen b1 (Nat.le_refl _) hx
 have TK := hid (Co.col_row (h.later b1) n p hp)
 have HW1 := hid hW1
 have B1 := hid b1
 have R1 := hid r1
 unfold Pt.val at TK ⊢
 generalize s.comp = cm at *
 clear h hp hx b1 hW1 r1
 go_enter Tryz.func97, Tryz.ntmps97
 go_upto_region 1 with fail
 rw [← HW1.out]
 go_wp2_with fail
 refine TK.out.mono ?_
 rintro e w2 ⟨rfl, hb⟩
 have B2 := hid (B1.out.trans (hb.mono B1.out.size))
 have r2 : w2.heap[W.heap.size]? = some (.cells (Pt.zero.arr 0) 47 (0, 0)) := blk_seen hb (Nat.le_refl _) R1.out
 have R2 := hid r2
 obtain ⟨x0, x1, x2, x3, x4, x5, f0, f1, f2, f3, f4, f5⟩ := lies r2
 clear hb r2 TK
 go_wp2_with fail
 have PB := put6_blk R2.out rfl cm p
 have PS := put6_st w2 W.heap.size cm p
 unfold put6 at PB PS
 obtain ⟨d0, d1, d2, d3, d4, d5, -, -, -, -, -, -⟩ := lies PB
 generalize (((((w2.setCell ⟨W.heap.size, 0, none⟩ (.int .i64 cm)).setCell ⟨W.heap.size, 1, none⟩ (.int .i64 p.a)).setCell ⟨W.heap.size, 2, none⟩ (.int .i64 p.b)).setCell ⟨W.heap.size, 3, none⟩ (.int .i64 p.c)).setCell ⟨W.heap.size, 4, none⟩ (.int .i64 p.d)).setCell ⟨W.heap.size, 5, none⟩ (.int .i64 p.t) = w3 at *
 exact bodyPost_ret (v := .tuple #[.agg #[.int .i64 cm, .int .i64 p.a, .int .i64 p.b, .int .i64 p.c, .int .i64 p.d, .int .i64 p.t], .nilIface]) (by simp [results, Tryz.results97, go_sem, d0, d1, d2, d3, d4, d5]) rfl ⟨rfl, B2.out.trans (PS.below (B := W.heap.size) (fun k hk => by omega) B2.out.size)⟩
end
end So
namespace So
open Go.RowKit Go.Shelf Go.Maps
open Co (Pt Col I64_mid)
open At (St bAl cell_blk blk_seen blk_free lst lst_mem)
open Ro (Ents entCells entCells_len)
open Rs (Prts SD mskP st_ro)
def tk (r : List Pt) (j : Nat) : List Pt := (r.set j (r.getD (r.length - 1) Pt.zero)).dropLast
def rowsT (rows : Nat → List Pt) (j : Nat) (l : List Nat) (c : Nat) : List Pt := if c ∈ l then tk (rows c) j else rows c
section
variable {B : Nat} {W W' : World} {f : Nat → Nat × Nat × Nat} {n : Nat} {x : TV} {m : Nat} {ws : List Nat} {own : List (Nat × Nat)} {rows : Nat → List Pt}
theorem Tb.colsame (h : Tb B W f n x m ws own rows) {c w : Nat} (hw : ws[c]? = some w) {r' : List Pt} (hcol : Col B W' (x.cb c) ⟨(c : Int), w, r'⟩ (fun k => f k = (5, n, c))) (hs : St (fun k => f k = (5, n, c)) W W') : Tb B W' f n x m ws own (fun c' => if c' = c then r' else rows c') := by
 have e4 : ∀ k, f k = (4, n, 0) → ¬ f k = (5, n, c) := fun k hk e => by rw [hk] at e; simp at e
 refine ⟨hs.at h.box (e4 _ h.ftb), own_kept h.own hs fun k hk => e4 k (h.fov hk), h.map.kept hs (e4 _ h.fcm), fun c' hc' => ?_, h.fp, h.low⟩
 by_cases e : c' = c
 ·subst e
  refine ⟨w, hw, ?_⟩
  rw [if_pos rfl]
  exact hcol
 ·obtain ⟨w', q1, q2⟩ := h.col c' hc'
  refine ⟨w', q1, ?_⟩
  rw [if_neg e]
  exact q2.kept (co_st hs) fun k hk q => by rw [hk] at q; simp at q; exact e q
theorem rowsT_next (rows : Nat → List Pt) (j : Nat) {cs : List Nat} {k c : Nat} (hc : cs[k]? = some c) : rowsT rows j (cs.take (k + 1)) = fun c' => if c' = c then tk (rows c) j else rowsT rows j (cs.take k) c' := by
 have e : cs.take (k + 1) = cs.take k ++ [c] := by
  obtain ⟨hl, rfl⟩ := List.getElem?_eq_some_iff.1 hc
  exact List.take_succ_eq_append_getElem hl
 funext c'
 unfold rowsT
 rw [e]
 by_cases q : c' = c
 ·subst q; simp
 ·simp [q]
theorem Tb.ovset (h : Tb B W f n x m ws own rows) {ov' : Value} {own' : List (Nat × Nat)} (hov : ov'.ownBlock = x.ov.ownBlock) (hs : St (fun k => f k = (4, n, 0)) W W') (hbox : W'.heap[x.tb]? = some (.cells #[.int .u32 (m : Int), ov', .map (some x.cm)] 152 (0, 0))) (hmap : PMap W' x.cm (colMap m x.cb)) (ho : Ents B W' ov' own') :
  Tb B W' f n ⟨x.tb, ov', x.cm, x.cb⟩ m ws own' rows := by
 refine ⟨hbox, ho, hmap, fun c hc => ?_, fun k => ?_, h.low⟩
 ·obtain ⟨w', q1, q2⟩ := h.col c hc
  exact ⟨w', q1, q2.kept (co_st hs) fun k hk q => by rw [hk] at q; simp at q⟩
 ·rw [h.fp k, ← hov]
end
theorem ent_take (l : List (Nat × Nat)) (k : Nat) : (entCells l).take (k * 2) = entCells (l.take k) := by
 induction l generalizing k with
 | nil => simp [entCells]
 | cons a l ih =>
  have e : ∀ (q : Nat × Nat) l, entCells (q :: l) = Ro.gI q.1 :: Ro.gI q.2 :: entCells l := fun q l => by simp [entCells]
  cases k with
  | zero => simp [entCells]
  | succ k =>
   rw [e, List.take_succ_cons, e, show (k + 1) * 2 = k * 2 + 1 + 1 by omega, List.take_succ_cons, List.take_succ_cons, ih]
theorem taken_cells {cur : List Value} {own : List (Nat × Nat)} {j : Nat} {y : Nat × Nat} (hc : cur.take (own.length * 2) = entCells own) :
  ((cur.set (j * 2) (Ro.gI y.1)).set (j * 2 + 1) (Ro.gI y.2)).take ((own.length - 1) * 2) = entCells (taken own j y) := by
 unfold taken
 rw [List.dropLast_eq_take, ← ent_take, List.length_set, ent_set, ← hc, List.take_set, List.take_set, List.take_set, List.take_set, List.take_take, Nat.min_eq_left (by omega)]
structure Tk (B : Nat) (W W1 : World) (f : Nat → Nat × Nat × Nat) (n : Nat) (x : TV) (m : Nat) (ws : List Nat) (own : List (Nat × Nat)) (rows : Nat → List Pt) (j k : Nat) (w : World) : Prop where
 tb : Tb B w f n x m ws own (rowsT rows j ((lst 32 m).take k))
 st : St (fun k => cls n (f k)) W1 w
 cell : w.heap[W.heap.size]? = some (.cells #[.int .i64 (j : Int)] 3 (0, 0))
theorem enters140 : ∀ args w, (callFunc 140 args).run Tryz.prog w = .ok (.enter 140 args) w := enters_of Tryz.func140 (by kernel_rfl) rfl
theorem taking {B : Nat} {W W1 : World} {f : Nat → Nat × Nat × Nat} {n : Nat} {x : TV} {m : Nat} {ws : List Nat} {own : List (Nat × Nat)} {rows : Nat → List Pt} (h : Tb B W f n x m ws own rows) (hlt : ∀ k, f k ≠ (0, 0, 0) → k < W.heap.size) (hm : m < 65536) (j : Nat) (hj : j < own.length) (hrows : ∀ c, m.testBit c = true → (rows c).length = own.length)
  (hW1 : W1 = W.alloc (.cells #[.int .i64 (j : Int)] 3)) :
  Calls Tryz.prog 96 #[.pointer (some ⟨x.tb, 0, none⟩), .func (.func 140) #[] #[.pointer (some ⟨W.heap.size, 0, none⟩)]] W1 fun e W' => ∃ v, e = .returned v ∧ Prts W1.heap.size W' v ((lst 32 m).map fun c => mk c ((rows c).getD j Pt.zero)) ∧ Tk B W W1 f n x m ws own rows j (lst 32 m).length W' ∧ St (fun k => k < W1.heap.size) W1 W' := by
 have b1 : Below W.heap.size W W1 := by rw [hW1]; exact bAl _ _
 have hz : W1.heap.size = W.heap.size + 1 := by rw [hW1]; simp
 have r1 : W1.heap[W.heap.size]? = some (.cells #[.int .i64 (j : Int)] 3 (0, 0)) := by rw [hW1]; exact heap_alloc_new W _
 have h1 := h.later b1
 have hc16 : ∀ c, m.testBit c = true → c < 16 := fun c hc => Nat.lt_of_not_le fun q => by
  rw [At.bit_out (n := 16) hm q] at hc
  cases hc
 refine each_any 140 #[.pointer (some ⟨W.heap.size, 0, none⟩)] enters140 x.tb x.cm m x.cb (fun c => mk c ((rows c).getD j Pt.zero)) (Tk B W W1 f n x m ws own rows j) hm ⟨?_, St.refl _ _, r1⟩ h1.c0 ?_ ?_ ?_ ?_
 ·have e : rowsT rows j ((lst 32 m).take 0) = rows := by funext c; simp [rowsT]
  rw [e]; exact h1
 ·intro k w w' hk hb
  exact ⟨hk.tb.later hb, hk.st.trans (St.of_below (S := fun _ => False) hb) fun _ _ q => q.elim, blk_seen hb (Nat.le_refl _) hk.cell⟩
 ·intro k w hk
  refine ⟨hk.tb.c2, fun c hc => ?_⟩
  have := hk.tb.look (c : Int) (I64_mid (by omega) (by have := hc16 c hc; omega))
  rw [lk_nat] at this
  unfold colMap at this
  rw [if_pos hc] at this
  exact this
 ·intro k w w' lv q hk hw hp hs
  have hlv : ∀ y, lv.ownBlock = some y → W1.heap.size ≤ y := fun y hy => (hp.lt y hy).1
  refine ⟨hk.tb.move hs (fun y hy e => ?_) fun _ _ _ => Iff.rfl, hk.st.trans hs fun y hy e => ?_, hs.at hk.cell fun e => ?_⟩
  ·have := hlv y e
   have := hlt y (cls_ne hy).1
   omega
  ·have := hlv y e; omega
  ·have := hlv _ e; omega
 ·intro k c w hc hk hw
  have hcb := ((lst_mem m c 32).1 (List.mem_of_getElem? hc)).2
  obtain ⟨wd, q1, q2⟩ := hk.tb.col c hcb
  have hnd : c ∉ (lst 32 m).take k := fun q => by
   have h2 : ((lst 32 m).take (k + 1)).Nodup := (lst_nodup m 32).sublist (List.take_sublist _ _)
   have e : (lst 32 m).take (k + 1) = (lst 32 m).take k ++ [c] := by
    obtain ⟨hl, rfl⟩ := List.getElem?_eq_some_iff.1 hc
    exact List.take_succ_eq_append_getElem hl
   rw [e, List.nodup_append] at h2
   exact h2.2.2 c q c (by simp) rfl
  have er : rowsT rows j ((lst 32 m).take k) c = rows c := by unfold rowsT; rw [if_neg hnd]
  rw [er] at q2
  have hl := hrows c hcb
  obtain ⟨p, hp⟩ := at_lt (rows c) j (by omega)
  obtain ⟨pl, hpl⟩ := at_lt (rows c) ((rows c).length - 1) (by omega)
  have ep : (rows c).getD j Pt.zero = p := by rw [List.getD_eq_getElem?_getD, hp]; rfl
  have epl : (rows c).getD ((rows c).length - 1) Pt.zero = pl := by rw [List.getD_eq_getElem?_getD, hpl]; rfl
  refine (take1_any q2 j p hp pl hpl W.heap.size (cell_blk hk.cell rfl)).mono ?_
  rintro e w' ⟨rfl, k1, k2⟩
  have hsc := st_co k2
  refine ⟨by rw [ep, mk_val], ⟨?_, hk.st.trans hsc fun y hy e => .inr ⟨c, e⟩, hsc.at hk.cell fun e => ?_⟩, ⟨hsc.os, hsc.tape, hsc.output, hsc.size, fun y hy hn => hsc.block y hy fun e => hn ?_⟩⟩
  ·rw [rowsT_next rows j hc]
   have := hk.tb.colsame q1 k1 hsc
   unfold tk
   rw [epl]
   exact this
  ·have := hlt _ (by rw [e]; simp); omega
  ·have := hlt y (by rw [e]; simp); omega
theorem cells_of {cur : Array Value} {own : List (Nat × Nat)} {j : Nat} {p : Nat × Nat} (hc : cur.toList.take (own.length * 2) = entCells own) (hj : own[j]? = some p) : cur[j * 2]? = some (.int .i64 (p.1 : Int)) ∧ cur[j * 2 + 1]? = some (.int .i64 (p.2 : Int)) := by
 have hl := (List.getElem?_eq_some_iff.1 hj).1
 have h := ent_at hj
 rw [← hc, List.getElem?_take_of_lt (by omega), List.getElem?_take_of_lt (by omega)] at h
 simpa using h
theorem keep_last {w : World} {g j last : Nat} {a b : Value} {cur : Array Value} {ty : TypeId} (h : w.heap[g]? = some (.cells cur ty (0, 0))) (c0 : cur[last * 2]? = some a) (c1 : cur[last * 2 + 1]? = some b) :
  ((w.setCell ⟨g, j * 2, none⟩ a).setCell ⟨g, j * 2 + 1, none⟩ b).cell? ⟨g, last * 2, none⟩ = some a ∧ ((w.setCell ⟨g, j * 2, none⟩ a).setCell ⟨g, j * 2 + 1, none⟩ b).cell? ⟨g, last * 2 + 1, none⟩ = some b := by
 have h1 := heap_setCell_same w g (j * 2) cur ty a h
 have h2 := heap_setCell_same _ g (j * 2 + 1) _ ty b h1
 have l0 := (Array.getElem?_eq_some_iff.1 c0).1
 have l1 := (Array.getElem?_eq_some_iff.1 c1).1
 refine ⟨cell_blk h2 ?_, cell_blk h2 ?_⟩
 ·rw [Array.getElem?_setIfInBounds, if_neg (by omega), Array.getElem?_setIfInBounds]
  by_cases e : j = last
  ·rw [if_pos (by omega), if_pos (by omega)]
  ·rw [if_neg (by omega)]; exact c0
 ·rw [Array.getElem?_setIfInBounds]
  by_cases e : j = last
  ·rw [if_pos (by omega), if_pos (by simpa using (by omega))]
  ·rw [if_neg (by omega), Array.getElem?_setIfInBounds, if_neg (by omega)]; exact c1
set_option maxHeartbeats 3200000 in
set_option maxRecDepth 100000 in
theorem ttake_any {B : Nat} {W : World} {f : Nat → Nat × Nat × Nat} {n : Nat} {x : TV} {m : Nat} {ws : List Nat} {own : List (Nat × Nat)} {rows : Nat → List Pt} (h : Tb B W f n x m ws own rows) (hlt : ∀ k, f k ≠ (0, 0, 0) → k < W.heap.size) (hm : m < 65536) (j : Nat) (hj : j < own.length) (hrows : ∀ c, m.testBit c = true → (rows c).length = own.length) (ho : own.length ≤ 100)
  {y : Nat × Nat} (hy : own[own.length - 1]? = some y) :
  Calls Tryz.prog 117 #[.pointer (some ⟨x.tb, 0, none⟩), .int .i64 (j : Int)] W fun e W' => ∃ v, e = .returned v ∧ Prts W.heap.size W' v ((lst 32 m).map fun c => mk c ((rows c).getD j Pt.zero)) ∧ (∃ ov', ov'.ownBlock = x.ov.ownBlock ∧ Tb B W' f n ⟨x.tb, ov', x.cm, x.cb⟩ m ws (taken own j y) (fun c => tk (rows c) j)) ∧ St (fun k => cls n (f k)) W W' := by
 obtain ⟨W1, hW1⟩ : ∃ W1, W1 = W.alloc (.cells #[.int .i64 (j : Int)] 3) := ⟨_, rfl⟩
 have b1 : Below W.heap.size W W1 := by rw [hW1]; exact bAl _ _
 have TK := hid (taking h hlt hm j hj hrows hW1)
 have HW1 := hid hW1
 have B1 := hid b1
 obtain ⟨last, hlast⟩ : ∃ last, own.length = last + 1 := ⟨own.length - 1, by omega⟩
 have HLT := hid hlt
 have HY := hid hy
 have hz1 : W1.heap.size = W.heap.size + 1 := by rw [hW1]; simp
 have hov : x.ov.ownBlock = x.ov.ownBlock := rfl
 obtain ⟨g, cap, hovv⟩ : ∃ g cap, x.ov = .slice (some ⟨g, 0, none⟩) own.length cap := by
  rcases h.own.2 with ⟨-, q⟩ | ⟨g, cap, cur, q, -⟩
  ·omega
  ·exact ⟨g, cap, q⟩
 clear h hlt hrows hy hW1 b1 hov
 go_enter Tryz.func117, Tryz.ntmps117
 go_upto_region 1 with fail
 rw [← HW1.out]
 go_wp2_with fail
 refine TK.out.mono ?_
 rintro e w2 ⟨v, rfl, hv, hk, hs⟩
 have V2 := hid hv
 have K2 := hid hk
 have c1 := hk.tb.c1
 rw [hovv] at c1
 obtain ⟨g', cap', cur, e1, e2, e3, e4, e5, e6, e7⟩ := (hk.tb.own.2).resolve_left (by omega)
 obtain ⟨rfl, rfl⟩ : g = g' ∧ cap = cap' := by rw [hovv] at e1; simpa using e1
 have hn1 : ((own.length : Nat) : Int) - 1 = (last : Int) := by omega
 have hji : (j : Int) < (own.length : Int) := by omega
 have hli : (last : Int) < (own.length : Int) := by omega
 have hoi : (own.length : Int) ≤ 100 := by omega
 have hci : (own.length : Int) ≤ (cap : Int) := by omega
 have hlc : (last : Int) ≤ (cap : Int) := by omega
 have hcm : (cap : Int) ≤ 9223372036854775807 := by unfold maxLen at e5; omega
 have hyl : own[last]? = some y := by have := HY.out; rw [hlast] at this; simpa using this
 obtain ⟨p, hp⟩ := at_lt own j hj
 have zl := cells_of e7 hyl
 have zj := cells_of e7 hp
 have d0 := cell_blk e3 zl.1
 have d1 := cell_blk e3 zl.2
 have d2 := cell_blk e3 zj.1
 have d3 := cell_blk e3 zj.2
 have d4 := blk_free e3 (j * 2)
 have d5 := blk_free e3 (j * 2 + 1)
 have dc := cell_blk hk.cell (j := 0) rfl
 have hgo : x.ov.ownBlock = some g := by rw [hovv]; rfl
 have hgt := hk.tb.ne_ov hgo
 have hgl : g < W.heap.size := HLT.out _ (by rw [hk.tb.fov hgo]; simp)
 have htg : x.tb ≠ g := fun e => hgt.1 e.symm
 have hWg : W.heap.size ≠ g := by omega
 have KL := hid (keep_last (j := j) e3 zl.1 zl.2)
 have K0 : Hid (∀ q, (w2.drewN q).cell? ⟨x.tb, 1, none⟩ = some (.slice (some ⟨g, 0, none⟩) own.length cap) ∧ (w2.drewN q).cell? ⟨W.heap.size, 0, none⟩ = some (.int .i64 (j : Int)) ∧ (w2.drewN q).cell? ⟨g, last * 2, none⟩ = some (.int .i64 (y.1 : Int)) ∧ (w2.drewN q).cell? ⟨g, last * 2 + 1, none⟩ = some (.int .i64 (y.2 : Int))) := fun q =>
  ⟨At.seen (At.drewN_below w2 q) (Nat.le_refl _) c1, At.seen (At.drewN_below w2 q) (Nat.le_refl _) dc, At.seen (At.drewN_below w2 q) (Nat.le_refl _) d0, At.seen (At.drewN_below w2 q) (Nat.le_refl _) d1⟩
 have HLA := hid hlast
 have HOV := hid hovv
 have E3 := hid e3
 have E7 := hid e7
 have S2 := hid hs
 clear hv hk hs e1 e3 e7 zl zj hyl hp HY hlast hovv hgo TK
 go_wp2_with fail
 go_region_held3 (fun W' => W'.cell? ⟨x.tb, 1, none⟩ = some (.slice (some ⟨g, 0, none⟩) own.length cap) ∧ W'.cell? ⟨W.heap.size, 0, none⟩ = some (.int .i64 (j : Int)) ∧ W'.cell? ⟨g, last * 2, none⟩ = some (.int .i64 (y.1 : Int)) ∧ W'.cell? ⟨g, last * 2 + 1, none⟩ = some (.int .i64 (y.2 : Int)))
  (first | exact K0.out 0 | exact K0.out 1 | exact ⟨keep_two (K0.out 1).1 htg, keep_two (K0.out 1).2.1 hWg, KL.out.1, KL.out.2⟩) (fail)
 obtain ⟨w3, hw3⟩ : ∃ w3, w3 = ((w2.setCell ⟨g, j * 2, none⟩ (.int .i64 (y.1 : Int))).setCell ⟨g, j * 2 + 1, none⟩ (.int .i64 (y.2 : Int))).drew := ⟨_, rfl⟩
 rw [← hw3]
 have s23 : St (fun k => k = g) w2 w3 := by
  rw [hw3]
  have q := (St.setCell (S := fun k => k = g) (a := w2) (p := ⟨g, j * 2, none⟩) (.int .i64 (y.1 : Int)) rfl).trans (St.setCell (S := fun k => k = g) (p := ⟨g, j * 2 + 1, none⟩) (.int .i64 (y.2 : Int)) rfl) fun _ _ q => q
  exact ⟨q.os, q.tape, q.output, q.size, q.block⟩
 have hg3 : w3.heap[g]? = some (.cells ((cur.setIfInBounds (j * 2) (.int .i64 (y.1 : Int))).setIfInBounds (j * 2 + 1) (.int .i64 (y.2 : Int))) 43 (0, 0)) := by
  rw [hw3]
  exact heap_setCell_same _ g (j * 2 + 1) _ 43 _ (heap_setCell_same w2 g (j * 2) cur 43 _ E3.out)
 have hb3 := s23.at K2.out.tb.box htg
 have t1 : w3.cell? ⟨x.tb, 1, none⟩ = some (.slice (some ⟨g, 0, none⟩) own.length cap) := by
  have := cell_blk hb3 (j := 1) rfl
  rw [HOV.out] at this
  exact this
 have t2 := blk_free hb3 1
 have S23 := hid s23
 have G3 := hid hg3
 have X3 := hid hb3
 clear hw3 s23 hg3 hb3 K0 KL d0 d1 d2 d3 d4 d5 dc c1
 go_wp2_with fail
 obtain ⟨w4, hw4⟩ : ∃ w4, w4 = w3.setCell ⟨x.tb, 1, none⟩ (.slice (some ⟨g, 0, none⟩) last cap) := ⟨_, rfl⟩
 rw [← hw4]
 have s34 : St (fun k => k = x.tb) w3 w4 := by rw [hw4]; exact St.setCell _ rfl
 have hgo : x.ov.ownBlock = some g := by rw [HOV.out]; rfl
 have T4 := K2.out.tb
 rw [List.take_length] at T4
 have T5 := T4.rows_eq (rows' := fun c => tk (rows c) j) fun c hc => by
  unfold rowsT
  rw [if_pos ((lst_mem m c 32).2 ⟨Nat.lt_of_lt_of_le (Nat.lt_of_not_le fun q => by rw [At.bit_out (n := 16) hm q] at hc; cases hc) (by decide : 16 ≤ 32), hc⟩)]
 have s24 : St (fun k => f k = (4, n, 0)) w2 w4 := by
  refine (St.trans (S := fun k => f k = (4, n, 0)) ⟨S23.out.os, S23.out.tape, S23.out.output, S23.out.size, fun k hk hn => S23.out.block k hk fun e => hn (by rw [e]; exact T5.fov hgo)⟩ s34 fun k _ e => ?_)
  rw [e]; exact T5.ftb
 have FN := T5.ovset (ov' := .slice (some ⟨g, 0, none⟩) last cap) (own' := taken own j y) hgo.symm s24 (by
   rw [hw4]
   exact heap_setCell_same w3 x.tb 1 _ 152 _ X3.out) ((T5.map.kept S23.out (fun e => (T5.ne_ov hgo).2 e.symm)).kept s34 fun e => T5.ne e.symm) (by
   have hl : (taken own j y).length = last := by rw [taken_len]; have := HLA.out; omega
   show World.ownsRow _ _ _ _ _ _ _
   rw [hl]
   refine ⟨by rw [entCells_len, hl], .inr ⟨g, cap, _, rfl, e2, s34.at G3.out (fun e => htg e.symm), by have := HLA.out; omega, e5, by simpa using e6, ?_⟩⟩
   have := taken_cells (j := j) (y := y) E7.out
   rw [show last = own.length - 1 by have := HLA.out; omega, ← this]
   simp [Ro.gI])
 have V4 : Prts W.heap.size w4 v ((lst 32 m).map fun c => mk c ((rows c).getD j Pt.zero)) := by
  have v1 := V2.out.kept S23.out fun k hk e => by have := (V2.out.lt k hk).1; omega
  have v2 := v1.kept s34 fun k hk e => by
   have := (V2.out.lt k hk).1
   have := HLT.out x.tb (by rw [T5.ftb]; simp)
   omega
  exact v2.lower (by omega)
 have SF : St (fun k => cls n (f k)) W w4 := by
  have q := (St.of_below (S := fun k => cls n (f k)) B1.out).trans K2.out.st fun k _ q => q
  exact q.trans s24 fun k _ e => .inl e
 have VH := hid V4
 have FH := hid FN
 have SH := hid SF
 clear V4 FN SF T4 T5 s24 s34 hw4 S2 V2 K2 E3 E7 S23 G3 X3
 go_wp2_with fail
 go_ret
 exact ⟨_, rfl, VH.out, ⟨.slice (some ⟨g, 0, none⟩) last cap, hgo.symm, FH.out⟩, SH.out⟩
theorem decol (f : Nat → Nat × Nat × Nat) (n N : Nat) (hlt : ∀ k, f k ≠ (0, 0, 0) → k < N) : ∃ f', (∀ k, ¬ cls n (f' k)) ∧ Rec (cls n) f f' N N := by
 classical
 refine ⟨fun k => if cls n (f k) then (0, 0, 0) else f k, fun k => ?_, ⟨fun l h0 hc k => ?_, fun k hk => ?_, fun k hk => ?_⟩⟩
 ·show ¬ cls n (if cls n (f k) then (0, 0, 0) else f k)
  by_cases e : cls n (f k)
  ·rw [if_pos e]; exact cls_zero n
  ·rw [if_neg e]; exact e
 ·show (if cls n (f k) then (0, 0, 0) else f k) = l ↔ _
  by_cases e : cls n (f k)
  ·rw [if_pos e]
   exact ⟨fun q => absurd q.symm h0, fun q => absurd (q ▸ e) hc⟩
  ·rw [if_neg e]
 ·change cls n (if cls n (f k) then (0, 0, 0) else f k) at hk
  by_cases e : cls n (f k)
  ·exact .inl e
  ·rw [if_neg e] at hk; exact .inl hk
 ·change (if cls n (f k) then (0, 0, 0) else f k) ≠ (0, 0, 0) at hk
  by_cases e : cls n (f k)
  ·rw [if_pos e] at hk; exact absurd rfl hk
  ·rw [if_neg e] at hk; exact hlt k hk
theorem tabMap_none (tab : Nat → Option (List (Nat × Nat))) (tv : Nat → TV) (n : Nat) : tabMap (tput tab n none) tv = gput (tabMap tab tv) n none := by
 funext k
 unfold tabMap gput tput
 by_cases e : k = n <;> simp [e]
theorem gput_gput (g : Nat → Option Nat) (n : Nat) (a b : Option Nat) : gput (gput g n a) n b = gput g n b := by
 funext k
 unfold gput
 by_cases e : k = n <;> simp [e]
section
variable {ex ex' : Option Nat} {B : Nat} {W W' : World} {sb : Nat} {c : CV} {s : SD} {n : Nat} {x : TV} {m : Nat} {own : List (Nat × Nat)} {rows : Nat → List Pt}
theorem Sx.drop (h : Sx ex B W sb c s n x m own rows) (hp : PMap W' c.tm (gput (gput (tabMap c.tab c.tv) n (some x.tb)) n none)) (hs : St (fun k => k = c.tm) W W') (hlk : Lk ex' (tput c.tab n none) c.seat s) :
  ∃ f', Sto ex' B W' sb { c with f := f', tab := tput c.tab n none } s ∧ Gw c { c with f := f', tab := tput c.tab n none } W W' ∧ ∀ k, f' k ≠ (0, 0, 0) → c.f k ≠ (0, 0, 0) := by
 obtain ⟨f', d1, d2⟩ := decol c.f n W.heap.size (fun k hk => (h.lt k hk).2)
 have n1 : ¬ cls n (1, 0, 0) := fun q => (cls_ne q).2.1 rfl
 have n2 : ¬ cls n (2, 0, 0) := fun q => (cls_ne q).2.2.1 rfl
 have n3 : ¬ cls n (3, 0, 0) := fun q => (cls_ne q).2.2.2 rfl
 have nt' : ∀ {k : Nat}, c.f k ≠ (1, 0, 0) → k ≠ c.tm := fun q e => q (by rw [e]; exact h.ftm)
 refine ⟨f', ⟨hs.at h.box (h.map.cells_ne h.box), own_kept h.wd hs fun k hk e => ?_, ?_, ?_, hs.at h.seats (h.map.cells_ne h.seats), ?_, ?_, fun k => (d2.out _ (by simp) n1 k).trans (h.fp k), fun k hk => ?_, h.okw, h.n2, hlk, fun k n' hk => ?_, h.small⟩, ⟨⟨hs.os, hs.tape, hs.output, hs.size, fun k hk hn => hs.block k hk fun e => hn ?_⟩, fun k hk => .inl ?_⟩, fun k hk => by rw [(d2.out _ hk (d1 k) k).1 rfl]; exact hk⟩
 ·obtain ⟨q, hq⟩ := own_blk h.wd hk
  exact h.map.cells_ne hq e
 ·exact atl_congr (h.atl.kept hs fun k hk e => nt' (by rw [hk]; simp) e) fun k => d2.out _ (by simp) n3 k
 ·exact rol_congr (h.rol.kept (st_ro hs) fun k hk e => nt' (by rw [hk]; simp) e) fun k => d2.out _ (by simp) n2 k
 ·show PMap W' c.tm (tabMap (tput c.tab n none) c.tv)
  rw [tabMap_none, ← gput_gput _ n (some x.tb)]
  exact hp
 ·intro n' own' h'
  change tput c.tab n none n' = some own' at h'
  have hne : n' ≠ n := fun e => by rw [e, tput_same] at h'; cases h'
  rw [tput_ne _ hne] at h'
  obtain ⟨m', q1, q2⟩ := h.tabs n' own' hne h'
  exact ⟨m', q1, q2.move hs (fun k hk e => nt' (cls_ne hk).2.1 e) fun l hl k => d2.out l (cls_ne hl).1 (fun q => hne (cls_one hl q)) k⟩
 ·have hk' : f' k ≠ (0, 0, 0) := hk
  have := h.lt k (by rw [(d2.out _ hk' (d1 k) k).1 rfl]; exact hk')
  exact ⟨this.1, Nat.lt_of_lt_of_le this.2 hs.size⟩
 ·show tput c.tab n none n' ≠ none
  have hne : n' ≠ n := fun e => d1 k (e ▸ hk)
  rw [tput_ne _ hne]
  have hk' : cls n' (f' k) := hk
  refine (h.only k n' (by rw [(d2.out _ (cls_ne hk').1 (d1 k) k).1 rfl]; exact hk')).elim (fun q => absurd q hne) id
 ·rw [e, h.ftm]; simp
 ·have hk' : f' k ≠ (0, 0, 0) := hk
  rw [(d2.out _ hk' (d1 k) k).1 rfl]; exact hk'
end
theorem rows_taken (s : SD) {own : List (Nat × Nat)} {j : Nat} {y : Nat × Nat} (hy : own[own.length - 1]? = some y) (q : Nat) : rowsOf s (taken own j y) q = tk (rowsOf s own q) j := by
 unfold rowsOf taken tk
 rw [List.map_dropLast, List.map_set]
 congr 2
 rw [List.length_map, List.getD_eq_getElem?_getD, List.getElem?_map, hy]
 rfl
theorem rows_at (s : SD) {own : List (Nat × Nat)} {j i g : Nat} (hj : own[j]? = some (i, g)) (q : Nat) : (rowsOf s own q).getD j Pt.zero = ptAt (s.at i) q := by
 unfold rowsOf
 rw [List.getD_eq_getElem?_getD, List.getElem?_map, hj]
 rfl
theorem parts_left {s : SD} {i g j : Nat} {own : List (Nat × Nat)} (hok : okE s.ws (s.at i)) (hw : s.ws.length ≤ 16) (hj : own[j]? = some (i, g)) : ((lst 32 (mskP (s.at i))).map fun q => mk q ((rowsOf s own q).getD j Pt.zero)) = s.at i := by
 have e : (fun q => mk q ((rowsOf s own q).getD j Pt.zero)) = fun q => mk q (ptAt (s.at i) q) := by
  funext q
  rw [rows_at s hj]
 rw [e]
 exact parts_back hok.1 hw
structure At1 (c : CV) (s : SD) (i g n j m : Nat) (own : List (Nat × Nat)) (y : Nat × Nat) : Prop where
 seat : c.seat[i]? = some (n, j)
 tab : c.tab n = some own
 here : own[j]? = some (i, g)
 set : s.sets[n]? = some m
 msk : m = mskP (s.at i)
 last : own[own.length - 1]? = some y
 few : own.length ≤ 64
 ok : okE s.ws (s.at i)
theorem Sto.stands {ex : Option Nat} {B : Nat} {W : World} {sb : Nat} {c : CV} {s : SD} (h : Sto ex B W sb c s) {i g : Nat} (ha : al s i g) (he : ex ≠ some i) : ∃ n j m own y, At1 c s i g n j m own y := by
 obtain ⟨n, j, own, e1, e2, e3, e4⟩ := h.lk.here i g ha he
 have hj := (List.getElem?_eq_some_iff.1 e3).1
 obtain ⟨y, hy⟩ := at_lt own (own.length - 1) (by omega)
 exact ⟨n, j, _, own, y, e1, e2, e3, e4, rfl, hy, Nat.le_trans (h.lk.few e2) h.rol.small, h.lk.ok i g ha he⟩
set_option maxHeartbeats 6400000 in
set_option maxRecDepth 100000 in
theorem leave_any {B : Nat} {W : World} {sb : Nat} {c : CV} {s : SD} {i g : Nat} (h : Sto none B W sb c s) (ha : al s i g) :
  Calls Tryz.prog 73 #[.pointer (some ⟨sb, 0, none⟩), .agg #[.int .i64 (i : Int), .int .i64 (g : Int)]] W fun e W' => ∃ v, e = .returned v ∧ Prts W.heap.size W' v (s.at i) ∧ ∃ c', Sto (some i) B W' sb c' s ∧ c'.t = c.t ∧ Gw c c' W W' ∧ ∀ k, c'.f k ≠ (0, 0, 0) → c.f k ≠ (0, 0, 0) := by
 obtain ⟨n, j, m, own, y, A⟩ := h.stands ha (by simp)
 obtain ⟨w1, hw1⟩ : ∃ w1, w1 = W.alloc (.cells #[.int .i64 (i : Int), .int .i64 (g : Int)] 43) := ⟨_, rfl⟩
 have HW1 := hid hw1
 have b1 : Below W.heap.size W w1 := by rw [hw1]; exact bAl _ _
 have r1 : w1.heap[W.heap.size]? = some (.cells #[.int .i64 (i : Int), .int .i64 (g : Int)] 43 (0, 0)) := by rw [hw1]; exact heap_alloc_new W _
 have hz1 : w1.heap.size = W.heap.size + 1 := by rw [hw1]; simp
 have KK : Hid (∀ W', Below w1.heap.size w1 W' → W'.cell? ⟨sb, 4, none⟩ = some (.slice (some ⟨c.sv, 0, none⟩) c.seat.length c.seat.length) ∧ W'.cell? ⟨W.heap.size, 0, none⟩ = some (.int .i64 (i : Int)) ∧ W'.cell? ⟨c.sv, i * 2, none⟩ = some (.int .i64 (n : Int)) ∧ W'.cell? ⟨c.sv, i * 2 + 1, none⟩ = some (.int .i64 (j : Int))) := fun W' hb => by
  have h' := (h.later b1).later hb
  exact ⟨h'.c4, cell_blk (blk_seen hb (Nat.le_refl _) r1) rfl, (h'.seat_at A.seat).1, (h'.seat_at A.seat).2⟩
 have hi := al_lt ha
 have hsi : (i : Int) < (c.seat.length : Int) := by have := h.lk.len; omega
 have hn5 : n ≤ 65536 := by
  have := (List.getElem?_eq_some_iff.1 A.set).1
  have := h.atl.ok.small
  simp at this
  omega
 have B1 := hid b1
 have H := hid h
 have HA := hid ha
 have AA := hid A
 have R1 := hid r1
 clear hw1 b1 r1 h ha A
 go_enter Tryz.func73, Tryz.ntmps73
 go_upto_region 1 with fail
 rw [← HW1.out]
 go_region_held3 (fun W' => W'.cell? ⟨sb, 4, none⟩ = some (.slice (some ⟨c.sv, 0, none⟩) c.seat.length c.seat.length) ∧ W'.cell? ⟨W.heap.size, 0, none⟩ = some (.int .i64 (i : Int)) ∧ W'.cell? ⟨c.sv, i * 2, none⟩ = some (.int .i64 (n : Int)) ∧ W'.cell? ⟨c.sv, i * 2 + 1, none⟩ = some (.int .i64 (j : Int)))
  (first | exact KK.out _ (Below.refl _ _).drew | exact KK.out _ ((Below.refl _ _).drew.alloc (by simp) _) | exact KK.out _ (((Below.refl _ _).drew.alloc (by simp) _).setCell (by simp) _) | exact KK.out _ ((((Below.refl _ _).drew.alloc (by simp) _).setCell (by simp) _).setCell (by simp) _)) (fail)
 obtain ⟨w2, hw2⟩ : ∃ w2, w2 = (w1.alloc (.cells #[.int .i64 (n : Int), .int .i64 (j : Int)] 218)).drew := ⟨_, rfl⟩
 rw [← hw2]
 have b12 : Below w1.heap.size w1 w2 := by rw [hw2]; exact (bAl _ _).drew
 have b2 : Below W.heap.size W w2 := B1.out.trans (b12.mono B1.out.size)
 have r2 : w2.heap[W.heap.size + 1]? = some (.cells #[.int .i64 (n : Int), .int .i64 (j : Int)] 218 (0, 0)) := by
  rw [hw2, ← hz1]
  exact heap_alloc_new w1 (.cells #[.int .i64 (n : Int), .int .i64 (j : Int)] 218)
 have h2 := H.out.later b2
 obtain ⟨x, hx⟩ : ∃ x, x = c.tv n := ⟨_, rfl⟩
 have X2 := hid (h2.out AA.out.tab AA.out.set)
 have LE : So.lk (tabMap c.tab c.tv) (n : Int) = some (c.tv n).tb := by rw [lk_nat]; unfold tabMap; rw [AA.out.tab]; rfl
 have K2 : Hid (∀ W', Below w2.heap.size w2 W' → W'.cell? ⟨sb, 2, none⟩ = some (.map (some c.tm)) ∧ W'.cell? ⟨W.heap.size + 1, 0, none⟩ = some (.int .i64 (n : Int)) ∧ (Instr.lookup 109 (.map (some c.tm)) (.int .i64 (n : Int)) false).run Tryz.prog W' = .ok (.pointer (some ⟨x.tb, 0, none⟩)) W') := fun W' hb => by
  refine ⟨(h2.later hb).c2, cell_blk (blk_seen hb (Nat.le_refl _) r2) rfl, ?_⟩
  have := (h2.later hb).look (n : Int) (I64_mid (by omega) (by omega))
  rw [LE, ← hx] at this
  exact this
 have hj := (List.getElem?_eq_some_iff.1 AA.out.here).1
 have hm16 : m < 65536 := by have := h2.atl.ok.u16 (List.mem_of_getElem? AA.out.set); exact this
 have R2 := hid r2
 have B2 := hid b2
 have PC : Hid (∀ W', Below w2.heap.size w2 W' → Calls Tryz.prog 117 #[.pointer (some ⟨x.tb, 0, none⟩), .int .i64 (j : Int)] W' fun e W3 => ∃ v, e = .returned v ∧ Prts W.heap.size W3 v (s.at i) ∧ (∃ ov', Sx none B W3 sb c s n ⟨x.tb, ov', x.cm, x.cb⟩ m (taken own j y) (fun q => tk (rowsOf s own q) j)) ∧ Gw c c W W3 ∧ W3.heap[W.heap.size + 1]? = some (.cells #[.int .i64 (n : Int), .int .i64 (j : Int)] 218 (0, 0)) ∧ (∀ k, v.ownBlock = some k → W.heap.size + 2 ≤ k)) := fun W' hb => by
  have X' := X2.out.later hb
  rw [← hx] at X'
  refine (ttake_any X'.tb (fun k hk => (X'.lt k hk).2) hm16 j hj (fun q _ => by unfold rowsOf; simp) (by have := AA.out.few; omega) AA.out.last).mono ?_
  rintro e W3 ⟨v, rfl, q1, ⟨ov', q2, q3⟩, q4⟩
  have hb' : W.heap.size + 2 ≤ W'.heap.size := by
   have e1 := (Array.getElem?_eq_some_iff.1 R2.out).1
   have e2 := hb.size
   omega
  have RT := X'.retab q3 (Rec.refl (cls n) c.f (fun k hk => (X'.lt k hk).2) q4.size) q4
  rw [AA.out.msk] at q1
  rw [parts_left AA.out.ok H.out.okw.1 AA.out.here] at q1
  refine ⟨v, rfl, q1.lower (by omega), ⟨ov', RT.1⟩, ((Gw.of_below B2.out).trans (Gw.of_below hb)).trans RT.2, q4.at (blk_seen hb (Nat.le_refl _) R2.out) fun e => ?_, fun k hk => Nat.le_trans hb' (q1.lt k hk).1⟩
  have := (H.out.lt _ (cls_ne e).1).2
  omega
 have HX := hid hx
 clear hw2 b12 b2 r2 h2 LE hx X2 KK
 go_upto_region 2 with fail
 go_region_held3 (fun W' => W'.cell? ⟨sb, 2, none⟩ = some (.map (some c.tm)) ∧ W'.cell? ⟨W.heap.size + 1, 0, none⟩ = some (.int .i64 (n : Int)) ∧ (Instr.lookup 109 (.map (some c.tm)) (.int .i64 (n : Int)) false).run Tryz.prog W' = .ok (.pointer (some ⟨x.tb, 0, none⟩)) W') (first | exact K2.out _ (Below.refl _ _).drew | exact K2.out _ (Below.refl _ _)) (fail)
 have y1 : w2.drew.cell? ⟨W.heap.size + 1, 1, none⟩ = some (.int .i64 (j : Int)) := cell_blk (W := w2) R2.out rfl
 clear K2
 go_wp2_with fail
 refine (PC.out _ (by first | exact (Below.refl _ _).drew | exact Below.refl _ _)).mono ?_
 rintro e w4 ⟨v, rfl, hv, ⟨ov', hx4⟩, hg4, hr4, hvb⟩
 obtain ⟨t, ht⟩ : ∃ t, t = (taken own j y).length := ⟨_, rfl⟩
 obtain ⟨oa, oc, hov⟩ := own_slice hx4.tb.own
 change ov' = _ at hov
 rw [← ht] at hov
 have htl : t = own.length - 1 := by rw [ht, taken_len]
 have t1 : w4.cell? ⟨x.tb, 1, none⟩ = some (.slice oa t oc) := by have := hx4.tb.c1; change _ = some ov' at this; rw [hov] at this; exact this
 have hti : (t : Int) ≤ 64 := by have := AA.out.few; omega
 have X4 := hid hx4
 have G4 := hid hg4
 have R4 := hid hr4
 have V4 := hid hv
 have VB := hid hvb
 have HOV := hid hov
 have HTL := hid htl
 have LV := hid (H.out.lk.leave AA.out.seat AA.out.tab AA.out.here AA.out.last)
 have RTK : Hid (∀ q, m.testBit q = true → rowsOf s (taken own j y) q = tk (rowsOf s own q) j) := fun q _ => rows_taken s AA.out.last q
 have K4 : Hid (∀ W', Below w4.heap.size w4 W' → W'.cell? ⟨W.heap.size + 1, 1, none⟩ = some (.int .i64 (j : Int)) ∧ W'.cell? ⟨x.tb, 1, none⟩ = some (.slice oa t oc)) := fun W' hb => ⟨cell_blk (blk_seen hb (Nat.le_refl _) R4.out) rfl, At.seen hb (Nat.le_refl _) t1⟩
 have hsvW : c.sv < W.heap.size := (H.out.lt _ (by rw [H.out.fsv]; simp)).2
 have htmW : c.tm < W.heap.size := (H.out.lt _ (by rw [H.out.ftm]; simp)).2
 clear hx4 hg4 hr4 hv hvb hov htl ht y1 PC
 by_cases hA : j < t
 ·have hAi : (j : Int) < (t : Int) := by omega
  obtain ⟨gg, cap, cur, e1, e2, e3, e4, e5, e6, e7⟩ := (X4.out.tb.own.2).resolve_left (by rw [taken_len, ← HTL.out]; omega)
  obtain ⟨rfl, rfl⟩ : oa = some ⟨gg, 0, none⟩ ∧ oc = cap := by
   change ov' = _ at e1
   rw [HOV.out] at e1
   simp at e1
   exact ⟨e1.1, e1.2.2⟩
  have hyj : (taken own j y)[j]? = some y := by rw [at_taken (by have := HTL.out; omega), if_pos rfl]
  have zc := cells_of e7 hyj
  have fgg : c.f gg = (4, n, 0) := X4.out.tb.fov (by show ov'.ownBlock = some gg; rw [HOV.out]; rfl)
  have ftb : c.f x.tb = (4, n, 0) := X4.out.tb.ftb
  have hyb := (H.out.lk.back n own AA.out.tab).2 _ y.1 y.2 AA.out.last
  have hys := (List.getElem?_eq_some_iff.1 hyb.2.2.1).1
  have hysi : (y.1 : Int) < (c.seat.length : Int) := by omega
  have g1 := cell_blk e3 zc.1
  have sc := ent_at hyb.2.2.1
  have z0 : w4.cell? ⟨c.sv, y.1 * 2, none⟩ = some (.int .i64 (n : Int)) := cell_blk X4.out.seats (by simpa using sc.1)
  have z1 : w4.cell? ⟨c.sv, y.1 * 2 + 1, none⟩ = some (.int .i64 ((own.length - 1 : Nat) : Int)) := cell_blk X4.out.seats (by simpa using sc.2)
  have v0 := blk_free X4.out.seats (y.1 * 2)
  have v1 := blk_free X4.out.seats (y.1 * 2 + 1)
  have q0 : w4.cell? ⟨sb, 4, none⟩ = some (.slice (some ⟨c.sv, 0, none⟩) c.seat.length c.seat.length) := cell_blk X4.out.box rfl
  have q1 := cell_blk R4.out (j := 0) rfl
  have q2 := cell_blk R4.out (j := 1) rfl
  have n0 : sb ≠ c.sv := fun e => by have := H.out.box; rw [e, H.out.seats] at this; simp at this
  have n1 : x.tb ≠ c.sv := fun e => by rw [e, H.out.fsv] at ftb; simp at ftb
  have n2 : gg ≠ c.sv := fun e => by rw [e, H.out.fsv] at fgg; simp at fgg
  have n3 : W.heap.size + 1 ≠ c.sv := by omega
  have K5 : Hid (∀ q, (w4.drewN q).cell? ⟨sb, 4, none⟩ = some (.slice (some ⟨c.sv, 0, none⟩) c.seat.length c.seat.length) ∧ (w4.drewN q).cell? ⟨x.tb, 1, none⟩ = some (.slice (some ⟨gg, 0, none⟩) t oc) ∧ (w4.drewN q).cell? ⟨W.heap.size + 1, 0, none⟩ = some (.int .i64 (n : Int)) ∧ (w4.drewN q).cell? ⟨W.heap.size + 1, 1, none⟩ = some (.int .i64 (j : Int)) ∧ (w4.drewN q).cell? ⟨gg, j * 2, none⟩ = some (.int .i64 (y.1 : Int))) := fun q =>
   have b := At.drewN_below w4 q
   ⟨At.seen b (Nat.le_refl _) q0, At.seen b (Nat.le_refl _) t1, At.seen b (Nat.le_refl _) q1, At.seen b (Nat.le_refl _) q2, At.seen b (Nat.le_refl _) g1⟩
  clear e1 e3 e7 zc sc g1 q0 q1 q2 hyj
  go_wp2_with fail
  go_region_held3 (fun W' => W'.cell? ⟨W.heap.size + 1, 1, none⟩ = some (.int .i64 (j : Int)) ∧ W'.cell? ⟨x.tb, 1, none⟩ = some (.slice (some ⟨gg, 0, none⟩) t oc)) (first | exact K4.out _ (Below.refl _ _).drew | exact K4.out _ (Below.refl _ _)) (fail)
  go_wp2_with fail
  go_region_held3 (fun W' => W'.cell? ⟨sb, 4, none⟩ = some (.slice (some ⟨c.sv, 0, none⟩) c.seat.length c.seat.length) ∧ W'.cell? ⟨x.tb, 1, none⟩ = some (.slice (some ⟨gg, 0, none⟩) t oc) ∧ W'.cell? ⟨W.heap.size + 1, 0, none⟩ = some (.int .i64 (n : Int)) ∧ W'.cell? ⟨W.heap.size + 1, 1, none⟩ = some (.int .i64 (j : Int)) ∧ W'.cell? ⟨gg, j * 2, none⟩ = some (.int .i64 (y.1 : Int)))
   (first | exact K5.out 0 | exact K5.out 1 | exact K5.out 2 | exact ⟨keep_two (K5.out 1).1 n0, keep_two (K5.out 1).2.1 n1, keep_two (K5.out 1).2.2.1 n3, keep_two (K5.out 1).2.2.2.1 n3, keep_two (K5.out 1).2.2.2.2 n2⟩ | exact ⟨keep_two (K5.out 2).1 n0, keep_two (K5.out 2).2.1 n1, keep_two (K5.out 2).2.2.1 n3, keep_two (K5.out 2).2.2.2.1 n3, keep_two (K5.out 2).2.2.2.2 n2⟩) (fail)
  obtain ⟨w5, hw5⟩ : ∃ w5, w5 = ((w4.setCell ⟨c.sv, y.1 * 2, none⟩ (.int .i64 (n : Int))).setCell ⟨c.sv, y.1 * 2 + 1, none⟩ (.int .i64 (j : Int))).drew.drew := ⟨_, rfl⟩
  rw [← hw5]
  have s45 : St (fun k => k = c.sv) w4 w5 := by
   rw [hw5]
   have q := (St.setCell (S := fun k => k = c.sv) (a := w4) (p := ⟨c.sv, y.1 * 2, none⟩) (.int .i64 (n : Int)) rfl).trans (St.setCell (S := fun k => k = c.sv) (p := ⟨c.sv, y.1 * 2 + 1, none⟩) (.int .i64 (j : Int)) rfl) fun _ _ q => q
   exact ⟨q.os, q.tape, q.output, q.size, q.block⟩
  have hse : w5.heap[c.sv]? = some (.cells (entCells (c.seat.set y.1 (n, j))).toArray 218 (0, 0)) := by
   rw [hw5]
   have e := heap_setCell_same _ c.sv (y.1 * 2 + 1) _ 218 (.int .i64 (j : Int)) (heap_setCell_same w4 c.sv (y.1 * 2) _ 218 (.int .i64 (n : Int)) X4.out.seats)
   refine Eq.trans e ?_
   rw [ent_set]
   simp [Ro.gI]
  have hlv := LV.out
  have hl1 : own.length - 1 ≠ 0 := by have := HTL.out; omega
  rw [left, if_neg hl1, seated, if_pos (by have := HTL.out; omega)] at hlv
  have FN := hid (X4.out.back hse s45 (by simp) rfl rfl rfl X4.out.n2 hlv RTK.out fun _ _ _ _ _ => rfl)
  have GN : Hid (Gw c { c with seat := c.seat.set y.1 (n, j), tab := tput c.tab n (some (taken own j y)), tv := tvput c.tv n ⟨x.tb, ov', x.cm, x.cb⟩ } W w5) := G4.out.trans ⟨⟨s45.os, s45.tape, s45.output, s45.size, fun k hk hn => s45.block k hk fun e => hn (by rw [e, H.out.fsv]; simp)⟩, fun k hk => .inl hk⟩
  have VN : Hid (Prts W.heap.size w5 v (s.at i)) := V4.out.kept s45 fun k hk e => by have := VB.out k hk; omega
  have t5 : w5.cell? ⟨x.tb, 1, none⟩ = some (.slice (some ⟨gg, 0, none⟩) t oc) := st_cell s45 t1 n1
  have tne : ¬ ((t : Int) = 0) := by omega
  clear hw5 s45 hse hlv K5 K4 z0 z1 v0 v1 t1
  go_wp2_with fail
  go_ret
  exact ⟨_, rfl, VN.out, _, FN.out, rfl, GN.out, fun _ q => q⟩
 ·have hAi : ¬ ((j : Int) < (t : Int)) := by omega
  go_wp2_with fail
  go_region_held3 (fun W' => W'.cell? ⟨W.heap.size + 1, 1, none⟩ = some (.int .i64 (j : Int)) ∧ W'.cell? ⟨x.tb, 1, none⟩ = some (.slice oa t oc)) (first | exact K4.out _ (Below.refl _ _).drew | exact K4.out _ (Below.refl _ _)) (fail)
  have hlv := LV.out
  rw [seated, if_neg (by have := HTL.out; omega)] at hlv
  by_cases hB : t = 0
  ·rw [left, if_pos (by have := HTL.out; omega)] at hlv
   have X5 := hid (X4.out.later (Below.refl w4.heap.size w4).drew)
   obtain ⟨w5, hdel, hp5, hs5⟩ := (X5.out.map.kept (W' := w4.drew.drew) (T := fun _ => False) (St.of_below ((Below.refl _ _).drew)) id).drop Tryz.underlying109 n (by omega) 0
   have s5 : St (fun k => k = c.tm) w4.drew w5 := ⟨hs5.os, hs5.tape, hs5.output, hs5.size, hs5.block⟩
   have DR := hid (X5.out.drop hp5 s5 hlv)
   have VN : Hid (Prts W.heap.size w5 v (s.at i)) := (V4.out.later (Below.refl _ _).drew).kept s5 fun k hk e => by have := VB.out k hk; omega
   have q0 : w4.cell? ⟨sb, 2, none⟩ = some (.map (some c.tm)) := cell_blk X4.out.box rfl
   have q1 := cell_blk R4.out (j := 0) rfl
   have nsb : sb ≠ c.tm := H.out.map.cells_ne H.out.box
   have nW : W.heap.size + 1 ≠ c.tm := by omega
   have K5 : Hid (w4.drew.drew.cell? ⟨sb, 2, none⟩ = some (.map (some c.tm)) ∧ w4.drew.drew.cell? ⟨W.heap.size + 1, 0, none⟩ = some (.int .i64 (n : Int))) := ⟨q0, q1⟩
   have K6 : Hid (w5.cell? ⟨sb, 2, none⟩ = some (.map (some c.tm)) ∧ w5.cell? ⟨W.heap.size + 1, 0, none⟩ = some (.int .i64 (n : Int))) := ⟨st_cell s5 q0 nsb, st_cell s5 q1 nW⟩
   have t5 : w4.drew.cell? ⟨x.tb, 1, none⟩ = some (.slice oa t oc) := t1
   have G5 := hid (G4.out.trans (Gw.of_below (c := c) (Below.refl w4.heap.size w4).drew))
   clear hp5 hs5 s5 hlv q0 q1 K4 X5 t1
   subst hB
   go_wp2_with fail
   go_region_held3 (fun W' => W'.cell? ⟨sb, 2, none⟩ = some (.map (some c.tm)) ∧ W'.cell? ⟨W.heap.size + 1, 0, none⟩ = some (.int .i64 (n : Int))) (first | exact K5.out | exact K6.out) (fail)
   clear hdel K5 K6
   obtain ⟨f', d1, d2, d3⟩ := DR.out
   have D1 := hid d1
   have D2 := hid (G5.out.trans d2)
   have D3 := hid d3
   clear d1 d2 d3 DR
   go_wp2_with fail
   go_ret
   exact ⟨_, rfl, VN.out, _, D1.out, rfl, D2.out, D3.out⟩
  ·rw [left, if_neg (by have := HTL.out; omega)] at hlv
   have X5 := hid (X4.out.later (Below.refl w4.heap.size w4).drew)
   have FN := hid (X5.out.back X5.out.seats (St.refl _ _) rfl rfl rfl rfl X5.out.n2 hlv RTK.out fun _ _ _ _ _ => rfl)
   have VN : Hid (Prts W.heap.size w4.drew v (s.at i)) := V4.out.later (Below.refl _ _).drew
   have GN : Hid (Gw c { c with seat := c.seat, tab := tput c.tab n (some (taken own j y)), tv := tvput c.tv n ⟨x.tb, ov', x.cm, x.cb⟩ } W w4.drew) := G4.out.trans ⟨St.of_below (Below.refl w4.heap.size w4).drew, fun k hk => .inl hk⟩
   have t5 : w4.drew.cell? ⟨x.tb, 1, none⟩ = some (.slice oa t oc) := t1
   have tne : ¬ ((t : Int) = 0) := by omega
   clear hlv K4 X5 t1
   go_wp2_with fail
   go_ret
   exact ⟨_, rfl, VN.out, _, FN.out, rfl, GN.out, fun _ q => q⟩
end So
namespace So
open Go.RowKit Go.Shelf Go.Maps
open Co (I64 I64_mid)
open At (bAl cell_blk blk_seen)
open Rs (SD)
theorem Env8.three {w : World} {Ad : Nat → Addr} (h : Env8 w Ad) : Co.Env3 w Ad := by
 have R : ∀ k ∈ Co.three, k ∈ eight ∧ k ≤ 18 := by decide
 exact ⟨fun k hk => h.cell k (R k hk).1 (R k hk).2, fun k hk => h.sen k (R k hk).1 (R k hk).2, fun i hi j hj => h.inj i j (R i hi).1 (R j hj).1⟩
theorem Env8.four {w : World} {Ad : Nat → Addr} (h : Env8 w Ad) : Ro.Env4 w Ad := by
 have R : ∀ k ∈ Ro.four, k ∈ eight ∧ k ≤ 18 := by decide
 exact ⟨fun k hk => h.cell k (R k hk).1 (R k hk).2, fun k hk => h.sen k (R k hk).1 (R k hk).2, fun i hi j hj => h.inj i j (R i hi).1 (R j hj).1⟩
section
variable {w : World} {Ad : Nat → Addr}
theorem e1 (h : Env8 w Ad) : w.cell? ⟨0, 0, none⟩ = some (.iface 278 (.pointer (some (Ad 1)))) := h.cell 1 (by decide) (by decide)
theorem e7 (h : Env8 w Ad) : w.cell? ⟨2, 0, none⟩ = some (.iface 278 (.pointer (some (Ad 7)))) := h.cell 7 (by decide) (by decide)
theorem e9 (h : Env8 w Ad) : w.cell? ⟨1, 0, none⟩ = some (.iface 278 (.pointer (some (Ad 9)))) := h.cell 9 (by decide) (by decide)
theorem e17 (h : Env8 w Ad) : w.cell? ⟨4, 0, none⟩ = some (.iface 278 (.pointer (some (Ad 17)))) := h.cell 17 (by decide) (by decide)
end
set_option maxHeartbeats 1600000 in
set_option maxRecDepth 100000 in
theorem find_dead (Ad : Nat → Addr) {ex : Option Nat} {B : Nat} {W : World} {sb : Nat} {c : CV} {s : SD} (h : Sto ex B W sb c s) (hE : Env8 W Ad) (i g : Int) (hi : I64 i) (hg : I64 g) (ha : s.r.aliveB i g = false) :
  Calls Tryz.prog 72 #[.pointer (some ⟨sb, 0, none⟩), .agg #[.int .i64 i, .int .i64 g]] W fun e W' => e = .returned (.tuple #[.pointer none, .int .i64 0, .iface 278 (.pointer (some (Ad 17)))]) ∧ Below W.heap.size W W' := by
 obtain ⟨w1, hw1⟩ : ∃ w1, w1 = W.alloc (.cells #[.int .i64 i, .int .i64 g] 43) := ⟨_, rfl⟩
 have b1 : Below W.heap.size W w1 := by rw [hw1]; exact bAl _ _
 have r1 : w1.heap[W.heap.size]? = some (.cells #[.int .i64 i, .int .i64 g] 43 (0, 0)) := by rw [hw1]; exact heap_alloc_new W _
 have KK : Hid (∀ W', Below w1.heap.size w1 W' → W'.cell? ⟨sb, 3, none⟩ = some (.pointer (some ⟨c.rb, 0, none⟩)) ∧ W'.cell? ⟨W.heap.size, 0, none⟩ = some (.int .i64 i) ∧ W'.cell? ⟨W.heap.size, 1, none⟩ = some (.int .i64 g)) := fun W' hb =>
  ⟨((h.later b1).later hb).c3, cell_blk (blk_seen hb (Nat.le_refl _) r1) rfl, cell_blk (blk_seen hb (Nat.le_refl _) r1) rfl⟩
 have AL : Hid (∀ W', Below w1.heap.size w1 W' → Calls Tryz.prog 95 #[.pointer (some ⟨c.rb, 0, none⟩), .agg #[.int .i64 i, .int .i64 g]] W' fun e W2 => e = .returned (.bool false) ∧ Below w1.heap.size w1 W2) := fun W' hb =>
  (Ro.rol_alive ((h.later b1).later hb).rol i g hi hg).mono fun e W2 ⟨q1, q2⟩ => ⟨by rw [q1, ha], hb.trans (q2.mono hb.size)⟩
 have HE := hid (hE.later b1)
 have HW1 := hid hw1
 have B1 := hid b1
 clear hw1 b1 r1 hE h hi hg ha
 go_enter Tryz.func72, Tryz.ntmps72
 go_upto_region 1 with fail
 rw [← HW1.out]
 go_wp2_with fail
 go_region_held3 (fun W' => W'.cell? ⟨sb, 3, none⟩ = some (.pointer (some ⟨c.rb, 0, none⟩)) ∧ W'.cell? ⟨W.heap.size, 0, none⟩ = some (.int .i64 i) ∧ W'.cell? ⟨W.heap.size, 1, none⟩ = some (.int .i64 g)) (first | exact KK.out _ (Below.refl _ _).drew | exact KK.out _ (Below.refl _ _) | exact KK.out _ B2.out)
  ((go_at_call 95; refine (AL.out _ (by first | exact (Below.refl _ _).drew | exact Below.refl _ _)).mono ?_; rintro e w2 ⟨rfl, hb2⟩; have B2 := hid hb2; clear hb2))
 have c17 := e17 (HE.out.later B2.out)
 go_wp2_with fail
 go_quiet (fail)
 go_wp2_with fail
 refine bodyPost_ret (v := .tuple #[.pointer none, .int .i64 0, .iface 278 (.pointer (some (Ad 17)))]) (by simp [results, Tryz.results72, go_sem]) rfl ⟨rfl, ?_⟩
 exact B1.out.trans ((B2.out.trans ((At.drewN_below _ _).mono B2.out.size)).mono B1.out.size)
set_option maxHeartbeats 3200000 in
set_option maxRecDepth 100000 in
theorem find_some {ex : Option Nat} {B : Nat} {W : World} {sb : Nat} {c : CV} {s : SD} (h : Sto ex B W sb c s) {i g n j m : Nat} {own : List (Nat × Nat)} {y : Nat × Nat} (ha : al s i g) (A : At1 c s i g n j m own y) :
  Calls Tryz.prog 72 #[.pointer (some ⟨sb, 0, none⟩), .agg #[.int .i64 (i : Int), .int .i64 (g : Int)]] W fun e W' => e = .returned (.tuple #[.pointer (some ⟨(c.tv n).tb, 0, none⟩), .int .i64 (j : Int), .nilIface]) ∧ Below W.heap.size W W' := by
 obtain ⟨w1, hw1⟩ : ∃ w1, w1 = W.alloc (.cells #[.int .i64 (i : Int), .int .i64 (g : Int)] 43) := ⟨_, rfl⟩
 have b1 : Below W.heap.size W w1 := by rw [hw1]; exact bAl _ _
 have r1 : w1.heap[W.heap.size]? = some (.cells #[.int .i64 (i : Int), .int .i64 (g : Int)] 43 (0, 0)) := by rw [hw1]; exact heap_alloc_new W _
 have h1 := h.later b1
 have hi64 : s.r.gens.length ≤ 64 := h.rol.small
 have hii := al_lt ha
 have KK : Hid (∀ W', Below w1.heap.size w1 W' → W'.cell? ⟨sb, 3, none⟩ = some (.pointer (some ⟨c.rb, 0, none⟩)) ∧ W'.cell? ⟨W.heap.size, 0, none⟩ = some (.int .i64 (i : Int)) ∧ W'.cell? ⟨W.heap.size, 1, none⟩ = some (.int .i64 (g : Int))) := fun W' hb =>
  ⟨(h1.later hb).c3, cell_blk (blk_seen hb (Nat.le_refl _) r1) rfl, cell_blk (blk_seen hb (Nat.le_refl _) r1) rfl⟩
 have hgI : I64 (g : Int) := by
  have hg := (al_iff s i g).1 ha
  have ho := h.rol.old g (List.mem_of_getElem? hg.2)
  have := h.small
  exact I64_mid (by omega) (by omega)
 have AL : Hid (∀ W', Below w1.heap.size w1 W' → Calls Tryz.prog 95 #[.pointer (some ⟨c.rb, 0, none⟩), .agg #[.int .i64 (i : Int), .int .i64 (g : Int)]] W' fun e W2 => e = .returned (.bool true) ∧ Below w1.heap.size w1 W2) := fun W' hb =>
  (Ro.rol_alive (h1.later hb).rol (i : Int) (g : Int) (I64_mid (by omega) (by omega)) hgI).mono fun e W2 ⟨q1, q2⟩ => ⟨by rw [q1, show s.r.aliveB (i : Int) (g : Int) = true from ha], hb.trans (q2.mono hb.size)⟩
 have K5 : Hid (∀ W', Below w1.heap.size w1 W' → W'.cell? ⟨sb, 4, none⟩ = some (.slice (some ⟨c.sv, 0, none⟩) c.seat.length c.seat.length) ∧ W'.cell? ⟨W.heap.size, 0, none⟩ = some (.int .i64 (i : Int)) ∧ W'.cell? ⟨c.sv, i * 2, none⟩ = some (.int .i64 (n : Int)) ∧ W'.cell? ⟨c.sv, i * 2 + 1, none⟩ = some (.int .i64 (j : Int))) := fun W' hb =>
  ⟨(h1.later hb).c4, (KK.out W' hb).2.1, ((h1.later hb).seat_at A.seat).1, ((h1.later hb).seat_at A.seat).2⟩
 have hsi : (i : Int) < (c.seat.length : Int) := by have := h.lk.len; omega
 have hn5 : n ≤ 65536 := by
  have := (List.getElem?_eq_some_iff.1 A.set).1
  have := h.atl.ok.small
  simp at this
  omega
 have LE : So.lk (tabMap c.tab c.tv) (n : Int) = some (c.tv n).tb := by rw [lk_nat]; unfold tabMap; rw [A.tab]; rfl
 obtain ⟨x, hx⟩ : ∃ x, x = c.tv n := ⟨_, rfl⟩
 rw [← hx] at LE
 have K6 : Hid (∀ W', Below w1.heap.size w1 W' → W'.cell? ⟨sb, 2, none⟩ = some (.map (some c.tm)) ∧ (Instr.lookup 109 (.map (some c.tm)) (.int .i64 (n : Int)) false).run Tryz.prog W' = .ok (.pointer (some ⟨x.tb, 0, none⟩)) W') := fun W' hb => by
  refine ⟨(h1.later hb).c2, ?_⟩
  have := (h1.later hb).look (n : Int) (I64_mid (by omega) (by omega))
  rw [LE] at this
  exact this
 rw [← hx]
 have HW1 := hid hw1
 have B1 := hid b1
 clear hw1 b1 r1 h h1 ha A LE hx hgI
 go_enter Tryz.func72, Tryz.ntmps72
 go_upto_region 1 with fail
 rw [← HW1.out]
 go_wp2_with fail
 go_region_held3 (fun W' => W'.cell? ⟨sb, 3, none⟩ = some (.pointer (some ⟨c.rb, 0, none⟩)) ∧ W'.cell? ⟨W.heap.size, 0, none⟩ = some (.int .i64 (i : Int)) ∧ W'.cell? ⟨W.heap.size, 1, none⟩ = some (.int .i64 (g : Int))) (first | exact KK.out _ (Below.refl _ _).drew | exact KK.out _ (Below.refl _ _) | exact KK.out _ B2.out)
  ((go_at_call 95; refine (AL.out _ (by first | exact (Below.refl _ _).drew | exact Below.refl _ _)).mono ?_; rintro e w2 ⟨rfl, hb2⟩; have B2 := hid hb2; clear hb2))
 go_wp2_with fail
 go_region_held3 (fun W' => W'.cell? ⟨sb, 4, none⟩ = some (.slice (some ⟨c.sv, 0, none⟩) c.seat.length c.seat.length) ∧ W'.cell? ⟨W.heap.size, 0, none⟩ = some (.int .i64 (i : Int)) ∧ W'.cell? ⟨c.sv, i * 2, none⟩ = some (.int .i64 (n : Int)) ∧ W'.cell? ⟨c.sv, i * 2 + 1, none⟩ = some (.int .i64 (j : Int)))
  (first | exact K5.out _ B2.out | exact K5.out _ B2.out.drew | exact K5.out _ (B2.out.drew.alloc (by have := B2.out.size; simp; omega) _) | exact K5.out _ ((B2.out.drew.alloc (by have := B2.out.size; simp; omega) _).setCell (by have := B2.out.size; simp; omega) _) | exact K5.out _ (((B2.out.drew.alloc (by have := B2.out.size; simp; omega) _).setCell (by have := B2.out.size; simp; omega) _).setCell (by have := B2.out.size; simp; omega) _)) (fail)
 obtain ⟨w3, hw3⟩ : ∃ w3, w3 = (w2.alloc (.cells #[.int .i64 (n : Int), .int .i64 (j : Int)] 218)).drew := ⟨_, rfl⟩
 have b3 : Below w1.heap.size w1 w3 := by rw [hw3]; exact (B2.out.alloc B2.out.size _).drew
 have r3 : w3.heap[w2.heap.size]? = some (.cells #[.int .i64 (n : Int), .int .i64 (j : Int)] 218 (0, 0)) := by rw [hw3]; exact heap_alloc_new w2 _
 rw [← hw3]
 have B3 := hid b3
 have R3 := hid r3
 have K7 : Hid (∀ W', Below w3.heap.size w3 W' → W'.cell? ⟨sb, 2, none⟩ = some (.map (some c.tm)) ∧ W'.cell? ⟨w2.heap.size, 0, none⟩ = some (.int .i64 (n : Int)) ∧ W'.cell? ⟨w2.heap.size, 1, none⟩ = some (.int .i64 (j : Int)) ∧ (Instr.lookup 109 (.map (some c.tm)) (.int .i64 (n : Int)) false).run Tryz.prog W' = .ok (.pointer (some ⟨x.tb, 0, none⟩)) W') := fun W' hb => by
  have q := K6.out W' (B3.out.trans (hb.mono B3.out.size))
  exact ⟨q.1, cell_blk (blk_seen hb (Nat.le_refl _) R3.out) rfl, cell_blk (blk_seen hb (Nat.le_refl _) R3.out) rfl, q.2⟩
 clear hw3 b3 r3 K5 KK AL
 go_wp2_with fail
 go_region_held3 (fun W' => W'.cell? ⟨sb, 2, none⟩ = some (.map (some c.tm)) ∧ W'.cell? ⟨w2.heap.size, 0, none⟩ = some (.int .i64 (n : Int)) ∧ W'.cell? ⟨w2.heap.size, 1, none⟩ = some (.int .i64 (j : Int)) ∧ (Instr.lookup 109 (.map (some c.tm)) (.int .i64 (n : Int)) false).run Tryz.prog W' = .ok (.pointer (some ⟨x.tb, 0, none⟩)) W') (first | exact K7.out _ (Below.refl _ _).drew | exact K7.out _ (Below.refl _ _)) (fail)
 go_wp2_with fail
 refine bodyPost_ret (v := .tuple #[.pointer (some ⟨x.tb, 0, none⟩), .int .i64 (j : Int), .nilIface]) (by simp [results, Tryz.results72, go_sem]) rfl ⟨rfl, ?_⟩
 exact (B1.out.trans (B3.out.mono B1.out.size)).drew
end So
namespace So
open Go.RowKit Go.Shelf Go.Maps
open Co (Pt Nums nzB any_next any_hit fit_any nums_behind)
open At (bAl cell_blk Err at_err err_leaf)
open Rs (Prt SD fitP)
set_option maxHeartbeats 400000 in
theorem nz_any (x : Int) (W : World) : Calls Tryz.prog 136 #[.int .i64 x] W fun e W' => e = .returned (.bool (!(x == 0))) ∧ W' = W := by
 go_enter Tryz.func136, Tryz.ntmps136
 go_wp2
 go_ret
 exact ⟨rfl, rfl⟩
set_option maxHeartbeats 800000 in
set_option maxRecDepth 100000 in
theorem index_any (W : World) (b o c : Nat) (xs : List Int) (hn : xs.length ≤ 4) (hm : Nums W b o xs) :
  Calls Tryz.prog 147 #[.slice (some ⟨b, o, none⟩) xs.length c, .func (.func 136) #[] #[]] W fun e W' => ∃ r : Int, e = .returned (.int .i64 r) ∧ decide (0 ≤ r) = xs.any nzB ∧ W' = W := by
 have HM := hid hm
 clear hm
 have NZ := hid nz_any
 have hni : (xs.length : Int) ≤ 4 := by omega
 go_enter Tryz.func147, Tryz.ntmps147
 go_wp2_with fail
 go_loop [5, 8] (fun _ i => ∃ k : Nat, k ≤ xs.length ∧ i = .int .i64 (k : Int) ∧ Hid ((xs.take k).any nzB = false)) (fun _ i => xs.length - (intOf i).toNat)
 case atStart => exact ⟨0, Nat.zero_le _, rfl, rfl⟩
 case round =>
  obtain ⟨k, hk, rfl, HA⟩ := hrel
  by_cases hlt : k < xs.length
  ·have hki : (k : Int) < (xs.length : Int) := by omega
   obtain ⟨x, hx⟩ := at_lt xs k hlt
   have c0 := HM.out k x hx
   have AN := hid (any_next hx)
   have AH := hid (any_hit hx)
   clear hx
   by_cases h0 : x = 0
   ·have e0 : (x == 0) = true := by simp [h0]
    have E : Hid ((xs.take (k + 1)).any nzB = false) := by show _ = _; rw [AN.out, HA.out]; simp [nzB, e0]
    clear h0 AH
    go_wp2_with fail
    refine (NZ.out _ _).mono ?_
    rintro e w1 ⟨rfl, rfl⟩
    go_wp2_with fail
    go_round
    case rel => exact ⟨k + 1, by omega, by go_num, E.out⟩
    case measure => simp [intOf]; omega
   ·have e0 : (x == 0) = false := by simp [h0]
    have E : Hid (xs.any nzB = true) := AH.out (by simp [nzB, e0])
    clear h0 AH
    go_wp2_with fail
    refine (NZ.out _ _).mono ?_
    rintro e w1 ⟨rfl, rfl⟩
    go_wp2_with fail
    go_ret
    exact ⟨_, rfl, by rw [E.out]; simp, rfl⟩
  ·have hki : ¬ ((k : Int) < (xs.length : Int)) := by omega
   have E : Hid (xs.any nzB = false) := by
    have := HA.out
    rw [List.take_of_length_le (by omega)] at this
    exact this
   go_wp2_with fail
   go_ret
   exact ⟨_, rfl, by rw [E.out]; simp, rfl⟩
set_option maxHeartbeats 800000 in
theorem contains_any (W : World) (b o c : Nat) (xs : List Int) (hn : xs.length ≤ 4) (hm : Nums W b o xs) :
  Calls Tryz.prog 130 #[.slice (some ⟨b, o, none⟩) xs.length c, .func (.func 136) #[] #[]] W fun e W' => e = .returned (.bool (xs.any nzB)) ∧ W' = W := by
 have IX := hid (index_any W b o c xs hn hm)
 clear hm
 go_enter Tryz.func130, Tryz.ntmps130
 go_wp2_with fail
 refine IX.out.mono ?_
 rintro e w1 ⟨r, rfl, hr, rfl⟩
 have HR := hid hr
 clear hr IX
 go_wp2_with fail
 go_ret
 exact ⟨by rw [← HR.out]; rfl, rfl⟩
theorem fit_bool {ws : List Nat} {p : Prt} {c w : Nat} (hc : p.c = (c : Int)) (hw : ws[c]? = some w) : fitP ws p = (pt p).fitB w := by rw [Rs.fit_in hc hw]; rfl
set_option maxHeartbeats 1600000 in
set_option maxRecDepth 100000 in
theorem check_out (Ad : Nat → Addr) {ex : Option Nat} {B : Nat} {W : World} {sb : Nat} {c : CV} {s : SD} (h : Sto ex B W sb c s) (hE : Env8 W Ad) (p : Prt) (hc : p.c < 0 ∨ (s.ws.length : Int) ≤ p.c) :
  Calls Tryz.prog 112 #[.pointer (some ⟨sb, 0, none⟩), .agg #[.int .i64 p.c, .int .i64 p.v0, .int .i64 p.v1, .int .i64 p.v2, .int .i64 p.v3, .int .i64 p.t]] W fun e W' => ∃ t q, e = .returned (.iface t q) ∧ Err Ad W' (.iface t q) 1 1 ∧ Below W.heap.size W W' := by
 obtain ⟨W1, hW1⟩ : ∃ W1, W1 = W.alloc (.cells p.arr 47) := ⟨_, rfl⟩
 have BA : Hid (Below W.heap.size W W1) := by rw [hW1]; exact bAl _ _
 have x1 := e1 (hE.later BA.out)
 have q0 := (h.later BA.out).c0
 obtain ⟨wa, wc, hwv⟩ := h.wd.slice
 rw [hwv] at q0
 have hh : W1.heap[W.heap.size]? = some (.cells p.arr 47 (0, 0)) := by rw [hW1]; exact heap_alloc_new W (.cells p.arr 47)
 have d0 : W1.cell? ⟨W.heap.size, 0, none⟩ = some (.int .i64 p.c) := cell_blk hh rfl
 have AC := hid (fun s m => at_err Ad s _ 1 0 (W1.drewN m) (err_leaf Ad _ 1 (by decide)))
 have HW1 := hid hW1
 have hsl : (s.ws.length : Int) ≤ 16 := by have := h.okw.1; omega
 unfold Prt.arr at HW1
 clear hE h hW1 hwv hh
 by_cases h0 : p.c < 0
 ·have g0 : decide (p.c < 0) = true := by simpa using h0
  clear hc
  go_enter Tryz.func112, Tryz.ntmps112
  go_wp2_with fail
  rw [← HW1.out]
  go_quiet (fail)
  go_wp2_with fail
  refine (AC.out _ _).mono ?_
  rintro e w2 ⟨t, q, rfl, hv, hb⟩
  have HV := hid hv
  have HB := hid (BA.out.trans ((At.drewN_below W1 nq).trans (hb.mono (At.drewN_below W1 nq).size) |>.mono BA.out.size))
  clear hv hb AC
  go_wp2_with fail
  go_ret
  exact ⟨t, q, rfl, HV.out, HB.out⟩
 ·have h1 : (s.ws.length : Int) ≤ p.c := by omega
  have g0 : decide (p.c < 0) = false := by simpa using h0
  have g1 : decide ((s.ws.length : Int) ≤ p.c) = true := by simpa using h1
  clear hc
  go_enter Tryz.func112, Tryz.ntmps112
  go_wp2_with fail
  rw [← HW1.out]
  go_quiet (fail)
  go_wp2_with fail
  refine (AC.out _ _).mono ?_
  rintro e w2 ⟨t, q, rfl, hv, hb⟩
  have HV := hid hv
  have HB := hid (BA.out.trans ((At.drewN_below W1 nq).trans (hb.mono (At.drewN_below W1 nq).size) |>.mono BA.out.size))
  clear hv hb AC
  go_wp2_with fail
  go_ret
  exact ⟨t, q, rfl, HV.out, HB.out⟩
set_option maxHeartbeats 1600000 in
set_option maxRecDepth 100000 in
theorem check_in (Ad : Nat → Addr) {ex : Option Nat} {B : Nat} {W : World} {sb : Nat} {c : CV} {s : SD} (h : Sto ex B W sb c s) (hE : Env8 W Ad) (p : Prt) {cc : Nat} (hc : p.c = (cc : Int)) (hcl : cc < s.ws.length) :
  Calls Tryz.prog 112 #[.pointer (some ⟨sb, 0, none⟩), .agg #[.int .i64 p.c, .int .i64 p.v0, .int .i64 p.v1, .int .i64 p.v2, .int .i64 p.v3, .int .i64 p.t]] W fun e W' => ∃ v, e = .returned v ∧ (if fitP s.ws p then v = .nilIface else ∃ t q, v = .iface t q ∧ Err Ad W' (.iface t q) 1 1) ∧ Below W.heap.size W W' := by
 obtain ⟨w, hw⟩ := at_lt s.ws cc hcl
 have hw14 := h.okw.2 w (List.mem_of_getElem? hw)
 rw [fit_bool hc hw]
 obtain ⟨W1, hW1⟩ : ∃ W1, W1 = W.alloc (.cells p.arr 47) := ⟨_, rfl⟩
 have BA : Hid (Below W.heap.size W W1) := by rw [hW1]; exact bAl _ _
 have x1 := e1 (hE.later BA.out)
 have q0 := (h.later BA.out).c0
 have hwd := (h.later BA.out).wd
 obtain ⟨wa, wc, hwv⟩ := hwd.slice
 rw [hwv] at q0 hwd
 obtain ⟨wg, rfl, -, -⟩ := hwd.some (by omega)
 have q1 := hwd.cell hw
 have hh : W1.heap[W.heap.size]? = some (.cells ((pt p).arr p.c) 47 (0, 0)) := by rw [hW1]; exact heap_alloc_new W (.cells p.arr 47)
 have d0 : W1.cell? ⟨W.heap.size, 0, none⟩ = some (.int .i64 (cc : Int)) := by rw [← hc]; exact cell_blk hh rfl
 have AC := hid (fun s m => at_err Ad s _ 1 0 (W1.drewN m) (err_leaf Ad _ 1 (by decide)))
 have HW1 := hid hW1
 have hsl : (s.ws.length : Int) ≤ 16 := by have := h.okw.1; omega
 have g0 : decide ((cc : Int) < 0) = false := by simp
 have g1 : decide ((s.ws.length : Int) ≤ (cc : Int)) = false := by simp; omega
 have hci : (cc : Int) < (s.ws.length : Int) := by omega
 have hci0 : ¬ ((s.ws.length : Int) ≤ (cc : Int)) := by omega
 unfold Prt.arr at HW1
 have hfx : (pt p).fitB 4 = true := Co.fit4 _
 have hn := nums_behind hh w
 obtain ⟨so, sl, hso⟩ : ∃ so sl : Nat, (w = 4 ∧ so = 1 ∧ sl = 0) ∨ (w < 4 ∧ so = 1 + w ∧ sl = 4 - w) := by
  by_cases h4 : w = 4
  ·exact ⟨1, 0, .inl ⟨h4, rfl, rfl⟩⟩
  ·exact ⟨1 + w, 4 - w, .inr ⟨by omega, rfl, rfl⟩⟩
 have CO : Hid (∀ W', Below W1.heap.size W1 W' → Calls Tryz.prog 130 #[.slice (some ⟨W.heap.size, so, none⟩) sl sl, .func (.func 136) #[] #[]] W' fun e W'' => e = .returned (.bool (!(pt p).fitB w)) ∧ W'' = W') := fun W' hb => by
  rcases hso with ⟨rfl, rfl, rfl⟩ | ⟨h4, rfl, rfl⟩
  ·rw [hfx]
   exact contains_any W' W.heap.size 1 0 [] (by simp) (by intro j x hx; simp at hx)
  ·have := contains_any W' W.heap.size (1 + w) (4 - w) ((pt p).cs.drop w) (by simp [Pt.cs]) (by
    intro j x hx
    exact At.seen hb (Nat.le_refl _) (hn j x hx))
   rw [fit_any, show ((pt p).cs.drop w).length = 4 - w by simp [Pt.cs]] at this
   exact this
 obtain ⟨fb, hfb⟩ : ∃ fb, fb = (pt p).fitB w := ⟨_, rfl⟩
 rw [← hfb] at CO ⊢
 rw [hc] at HW1 ⊢
 have KK : Hid (∀ m, (W1.drewN m).cell? ⟨sb, 0, none⟩ = some (.slice (some ⟨wg, 0, none⟩) s.ws.length wc) ∧ (W1.drewN m).cell? ⟨wg, cc, none⟩ = some (.int .i64 (w : Int)) ∧ (W1.drewN m).cell? ⟨W.heap.size, 0, none⟩ = some (.int .i64 (cc : Int)) ∧ (W1.drewN m).cell? ⟨0, 0, none⟩ = some (.iface 278 (.pointer (some (Ad 1))))) := fun m =>
  have b := At.drewN_below W1 m
  ⟨At.seen b (Nat.le_refl _) q0, At.seen b (Nat.le_refl _) q1, At.seen b (Nat.le_refl _) d0, At.seen b (Nat.le_refl _) x1⟩
 have hw4 : (w : Int) ≤ 4 := by omega
 clear h hE hW1 hh hw hwv hwd hc hfx hn hfb
 go_enter Tryz.func112, Tryz.ntmps112
 go_wp2_with fail
 rw [← HW1.out]
 go_quiet (fail)
 obtain ⟨W2, hW2⟩ : ∃ W2, W2 = W1.drewN nq := ⟨_, rfl⟩
 have b2 : Below W1.heap.size W1 W2 := by rw [hW2]; exact At.drewN_below _ _
 obtain ⟨k0, k1, k2, k3⟩ := KK.out nq
 rw [← hW2] at k0 k1 k2 k3
 have CO2 : Hid (∀ m, Calls Tryz.prog 130 #[.slice (some ⟨W.heap.size, so, none⟩) sl sl, .func (.func 136) #[] #[]] (W2.drewN m) fun e W'' => e = .returned (.bool (!fb)) ∧ W'' = W2.drewN m) := fun m => CO.out _ (b2.trans ((At.drewN_below W2 m).mono b2.size))
 have AC2 : Hid (∀ str m, Calls Tryz.prog 63 #[.string str, .iface 278 (.pointer (some (Ad 1)))] (W2.drewN m) fun e w' => ∃ t q, e = .returned (.iface t q) ∧ Err Ad w' (.iface t q) 1 1 ∧ Below W.heap.size W w') := fun str m =>
  (at_err Ad str _ 1 0 (W2.drewN m) (err_leaf Ad _ 1 (by decide))).mono fun e w' ⟨t, q, q1, q2, q3⟩ => by
   have b3 : Below W.heap.size W (W2.drewN m) := BA.out.trans ((b2.trans ((At.drewN_below W2 m).mono b2.size)).mono BA.out.size)
   exact ⟨t, q, q1, q2, b3.trans (q3.mono b3.size)⟩
 have B3 : Hid (∀ m, Below W.heap.size W (W2.drewN m)) := fun m => BA.out.trans ((b2.trans ((At.drewN_below W2 m).mono b2.size)).mono BA.out.size)
 have K3 : Hid (∀ m, (W2.drewN m).cell? ⟨0, 0, none⟩ = some (.iface 278 (.pointer (some (Ad 1))))) := fun m => At.seen (At.drewN_below W2 m) (Nat.le_refl _) k3
 rw [← hW2]
 clear hW2 b2 KK CO AC q0 q1 d0 x1 BA
 rcases hso with ⟨rfl, rfl, rfl⟩ | ⟨h4, rfl, rfl⟩
 ·go_wp2_with fail
  go_quiet ((go_at_call 130; exact Calls.quiet_of_same (CO2.out _)))
  have k4 := K3.out nq
  cases fb
  ·go_wp2_with fail
   refine (AC2.out _ _).mono ?_
   rintro e w2 ⟨t, q, rfl, hv, hb⟩
   have HV := hid hv
   have HB := hid hb
   clear hv hb
   go_wp2_with fail
   go_ret
   exact ⟨_, rfl, ⟨t, q, rfl, HV.out⟩, HB.out⟩
  ·go_wp2_with fail
   go_ret
   exact ⟨_, rfl, rfl, B3.out _⟩
 ·have hn4 : ¬ (4 = w) := by omega
  have hz4 : ¬ (w = 4) := by omega
  go_wp2_with fail
  go_quiet ((go_at_call 130; exact Calls.quiet_of_same (CO2.out _)))
  have k4 := K3.out nq
  cases fb
  ·go_wp2_with fail
   refine (AC2.out _ _).mono ?_
   rintro e w2 ⟨t, q, rfl, hv, hb⟩
   have HV := hid hv
   have HB := hid hb
   clear hv hb
   go_wp2_with fail
   go_ret
   exact ⟨_, rfl, ⟨t, q, rfl, HV.out⟩, HB.out⟩
  ·go_wp2_with fail
   go_ret
   exact ⟨_, rfl, rfl, B3.out _⟩
end So
namespace So
open Go.RowKit Go.Shelf Go.Maps
open At (cell_blk Err at_err err_leaf wi)
open Rs (Prt SD fitP PRow mskP)
def Er (Ad : Nat → Addr) (W : World) (v : Value) (k : Nat) (n : Nat := 9) : Prop := (k = 0 ∧ v = .nilIface) ∨ (k ≠ 0 ∧ ∃ t q, v = .iface t q ∧ ∃ d, Err Ad W (.iface t q) k (min d n))
theorem Er.later {Ad : Nat → Addr} {W W' : World} {v : Value} {k n : Nat} (h : Er Ad W v k n) (hb : Below W.heap.size W W') : Er Ad W' v k n :=
 h.imp id fun ⟨h0, t, q, e, d, hd⟩ => ⟨h0, t, q, e, d, hd.later hb⟩
theorem Er.none (Ad : Nat → Addr) (W : World) {n : Nat} : Er Ad W .nilIface 0 n := .inl ⟨rfl, rfl⟩
theorem Er.leaf (Ad : Nat → Addr) (W : World) (k : Nat) (hk : 1 ≤ k ∧ k ≤ 18) {n : Nat} : Er Ad W (.iface 278 (.pointer (some (Ad k)))) k n := .inr ⟨by omega, _, _, rfl, 0, by rw [Nat.zero_min]; exact err_leaf Ad W k hk⟩
theorem Er.of {Ad : Nat → Addr} {W : World} {t : TypeId} {q : Value} {k d n : Nat} (h0 : k ≠ 0) (h : Err Ad W (.iface t q) k d) (hn : d ≤ n := by omega) : Er Ad W (.iface t q) k n := .inr ⟨h0, t, q, rfl, d, by rw [Nat.min_eq_left hn]; exact h⟩
theorem Er.up {Ad : Nat → Addr} {W : World} {v : Value} {k n m : Nat} (h : Er Ad W v k n) (hn : n ≤ m := by omega) : Er Ad W v k m :=
 h.imp id fun ⟨h0, t, q, e, d, hd⟩ => ⟨h0, t, q, e, min d n, by rw [show min (min d n) m = min d n by omega]; exact hd⟩
theorem at_er (Ad : Nat → Addr) (s : ByteArray) (v : Value) (k : Nat) (w : World) {n m : Nat} (h : Er Ad w v k n) (hm : n + 1 ≤ m := by omega) :
  Calls Tryz.prog 63 #[.string s, v] w fun e w' => ∃ v', e = .returned v' ∧ Er Ad w' v' k m ∧ Below w.heap.size w w' := by
 rcases h with ⟨rfl, rfl⟩ | ⟨h0, t, q, rfl, d, hd⟩
 ·exact (at_nil s w).mono fun e w' ⟨q1, q2⟩ => ⟨_, q1, .inl ⟨rfl, rfl⟩, by rw [q2]; exact Below.refl _ _⟩
 ·exact (at_err Ad s _ k _ w hd).mono fun e w' ⟨t, q, q1, q2, q3⟩ => ⟨_, q1, Er.of h0 q2, q3⟩
theorem check_any (Ad : Nat → Addr) {ex : Option Nat} {B : Nat} {W : World} {sb : Nat} {c : CV} {s : SD} (h : Sto ex B W sb c s) (hE : Env8 W Ad) (p : Prt) :
  Calls Tryz.prog 112 #[.pointer (some ⟨sb, 0, none⟩), .agg #[.int .i64 p.c, .int .i64 p.v0, .int .i64 p.v1, .int .i64 p.v2, .int .i64 p.v3, .int .i64 p.t]] W fun e W' => ∃ v, e = .returned v ∧ Er Ad W' v (if fitP s.ws p then 0 else 1) 1 ∧ Below W.heap.size W W' := by
 by_cases hc : p.c < 0 ∨ (s.ws.length : Int) ≤ p.c
 ·rw [Rs.fit_out hc]
  exact (check_out Ad h hE p hc).mono fun e W' ⟨t, q, q1, q2, q3⟩ => ⟨_, q1, Er.of (by decide) q2, q3⟩
 ·refine (check_in Ad h hE p (cc := p.c.toNat) (by omega) (by omega)).mono fun e W' ⟨v, q1, q2, q3⟩ => ⟨v, q1, ?_, q3⟩
  cases hf : fitP s.ws p
  ·rw [hf] at q2
   obtain ⟨t, q, rfl, q4⟩ := q2
   exact Er.of (by decide) q4
  ·rw [hf] at q2
   exact .inl ⟨rfl, q2⟩
def chkL (ws : List Nat) (l : List Prt) : Nat := if l.all (fitP ws) then (if l.Pairwise (fun x y => x.c ≠ y.c) then 0 else 9) else 1
theorem chk_unfit {ws : List Nat} {l : List Prt} {p : Prt} (hp : p ∈ l) (hf : fitP ws p = false) : chkL ws l = 1 := by
 unfold chkL
 rw [if_neg]
 intro h
 rw [List.all_eq_true.1 h p hp] at hf
 cases hf
theorem chk_ok {ws : List Nat} {l : List Prt} (h : chkL ws l = 0) : (∀ p ∈ l, fitP ws p = true) ∧ Apart l := by
 unfold chkL at h
 split at h
 ·rename_i h1
  split at h
  ·rename_i h2
   exact ⟨List.all_eq_true.1 h1, h2⟩
  ·cases h
 ·cases h
theorem take_snoc {l : List Prt} {k : Nat} {p : Prt} (hp : l[k]? = some p) : l.take (k + 1) = l.take k ++ [p] := by
 obtain ⟨hl, rfl⟩ := List.getElem?_eq_some_iff.1 hp
 exact List.take_succ_eq_append_getElem hl
theorem apart_snoc {l : List Prt} {k : Nat} {p : Prt} {c : Nat} (hp : l[k]? = some p) (hc : p.c = (c : Int)) (hpos : Pos l) (h : Apart (l.take k)) (hb : (mskP (l.take k)).testBit c = false) : Apart (l.take (k + 1)) := by
 rw [take_snoc hp, Apart, List.pairwise_append]
 refine ⟨h, by simp, fun a ha b hb' e => ?_⟩
 simp at hb'
 subst hb'
 have := (msk_mem (fun x hx => hpos x (List.mem_of_mem_take hx)) c).2 ⟨a, ha, by rw [e, hc]⟩
 rw [this] at hb
 cases hb
theorem not_apart {l : List Prt} {k : Nat} {p : Prt} {c : Nat} (hp : l[k]? = some p) (hc : p.c = (c : Int)) (hpos : Pos l) (hb : (mskP (l.take k)).testBit c = true) : ¬ Apart l := fun h => by
 obtain ⟨a, ha, e⟩ := (msk_mem (fun x hx => hpos x (List.mem_of_mem_take hx)) c).1 hb
 have h2 : Apart (l.take (k + 1)) := h.sublist (List.take_sublist _ _)
 rw [take_snoc hp, Apart, List.pairwise_append] at h2
 exact h2.2.2 a ha p (by simp) (by rw [e, hc])
set_option maxHeartbeats 6400000 in
set_option maxRecDepth 100000 in
theorem checkAll_any (Ad : Nat → Addr) {ex : Option Nat} {B : Nat} {W : World} {sb : Nat} {c : CV} {s : SD} (h : Sto ex B W sb c s) (hE : Env8 W Ad) {v : Value} {l : List Prt} (hv : PRow W v l) (hl : l.length ≤ 90) :
  Calls Tryz.prog 64 #[.pointer (some ⟨sb, 0, none⟩), v] W fun e W' => ∃ r, e = .returned r ∧ Er Ad W' r (chkL s.ws l) 2 ∧ Below W.heap.size W W' := by
 obtain ⟨va, vc, rfl, -⟩ := id hv
 have hli : (l.length : Int) ≤ 90 := by omega
 have H := hid h
 have HE := hid hE
 have HV := hid hv
 have hw16 := h.okw.1
 clear h hE hv
 go_enter Tryz.func64, Tryz.ntmps64
 go_wp2_with fail
 go_loopg [5, 6, 7, 13] l.length (fun gh _ _ _ q wr => ∃ k : Nat, k ≤ l.length ∧ gh = l.length - k ∧ q = .int .i64 (k : Int) ∧ Hid (∀ p ∈ l.take k, fitP s.ws p = true) ∧ Hid (Below W.heap.size W wr))
 case atStart => exact ⟨0, Nat.zero_le _, rfl, rfl, (show ∀ p ∈ l.take 0, fitP s.ws p = true from fun p hp => by simp at hp), Below.refl _ _⟩
 case round =>
  obtain ⟨k, hk, rfl, rfl, HF, HB⟩ := hrel
  by_cases hlt : k < l.length
  ·have hki : (k : Int) < (l.length : Int) := by omega
   obtain ⟨p, hp⟩ := at_lt l k hlt
   obtain ⟨b, o, rfl, d0, d1, d2, d3, d4, d5⟩ := (HV.out.later HB.out).at hp
   obtain ⟨w3, hw3⟩ : ∃ w3, w3 = wr.alloc (.cells #[.int .i64 p.c, .int .i64 p.v0, .int .i64 p.v1, .int .i64 p.v2, .int .i64 p.v3, .int .i64 p.t] 47) := ⟨_, rfl⟩
   have b3 : Below W.heap.size W w3 := by rw [hw3]; exact HB.out.alloc HB.out.size _
   have y : w3.heap[wr.heap.size]? = some (.cells p.arr 47 (0, 0)) := by rw [hw3]; exact heap_alloc_new wr _
   have y0 := cell_blk y (j := 0) rfl
   have y1 := cell_blk y (j := 1) rfl
   have y2 := cell_blk y (j := 2) rfl
   have y3 := cell_blk y (j := 3) rfl
   have y4 := cell_blk y (j := 4) rfl
   have y5 := cell_blk y (j := 5) rfl
   have CK := hid (check_any Ad (H.out.later b3) (HE.out.later b3) p)
   have HW3 := hid hw3
   have B3 := hid b3
   have HP := hid hp
   clear hw3 b3 y hp
   cases hf : fitP s.ws p
   ·rw [hf] at CK
    have HU := hid (chk_unfit (List.mem_of_getElem? HP.out) hf)
    go_upto_region 4 with fail
    rw [← HW3.out]
    go_wp2_with fail
    refine CK.out.mono ?_
    rintro e w4 ⟨v4, rfl, q1, q2⟩
    rcases q1 with ⟨q1, -⟩ | ⟨-, t, q, rfl, d, hd⟩
    ·cases q1
    have IT := hid (Sc.itoa_any k (by omega) w4)
    have AC := hid (at_err Ad (Sc.dig k) _ 1 _ w4 hd)
    have B4 := hid (B3.out.trans (q2.mono B3.out.size))
    clear q2 hd CK y0 y1 y2 y3 y4 y5
    go_wp2_with fail
    refine IT.out.mono ?_
    rintro e w5 ⟨rfl, rfl⟩
    go_wp2_with fail
    refine AC.out.mono ?_
    rintro e w6 ⟨t6, q6, rfl, hv6, hb6⟩
    have V6 := hid hv6
    have B6 := hid (B4.out.trans (hb6.mono B4.out.size))
    clear hv6 hb6 IT AC
    go_wp2_with fail
    go_ret
    exact ⟨_, rfl, by rw [HU.out]; exact Er.of (by decide) V6.out, B6.out⟩
   ·rw [hf] at CK
    have HF' : Hid (∀ p ∈ l.take (k + 1), fitP s.ws p = true) := fun x hx => by
     rw [take_snoc HP.out] at hx
     rcases List.mem_append.1 hx with hx | hx
     ·exact HF.out x hx
     ·simp at hx; rw [hx]; exact hf
    go_upto_region 4 with fail
    rw [← HW3.out]
    go_wp2_with fail
    refine CK.out.mono ?_
    rintro e w4 ⟨v4, rfl, q1, q2⟩
    rcases q1 with ⟨-, rfl⟩ | ⟨q1, -⟩
    ·have B4 := hid (B3.out.trans (q2.mono B3.out.size))
     clear q2 CK y0 y1 y2 y3 y4 y5
     go_wp2_with fail
     go_roundg (l.length - (k + 1))
     case measure => omega
     case rel => exact ⟨k + 1, by omega, rfl, by go_num, HF'.out, B4.out⟩
    ·simp at q1
  ·have hki : ¬ ((k : Int) < (l.length : Int)) := by omega
   obtain rfl : k = l.length := by omega
   have hall := HF.out
   rw [List.take_length] at hall
   have HALL := hid hall
   have HPOS : Hid (∀ p ∈ l, 0 ≤ p.c ∧ p.c < 16) := fun p hp => by have := Rs.fit_range (hall p hp); omega
   rename World => wo
   clear hall HF
   go_wp2_with fail
   go_loopg [8, 9, 10, 30] l.length (fun gh sv _ _ q wr => ∃ k m : Nat, k ≤ l.length ∧ gh = l.length - k ∧ q = .int .i64 (k : Int) ∧ sv = .int .u32 (m : Int) ∧ Hid (m = mskP (l.take k)) ∧ Hid (m < 65536) ∧ Hid (Apart (l.take k)) ∧ Hid (Below W.heap.size W wr))
   case atStart => exact ⟨0, 0, Nat.zero_le _, rfl, rfl, rfl, rfl, (show (0 : Nat) < 65536 by decide), (show Apart (l.take 0) by simp [Apart]), HB.out⟩
   case round =>
    obtain ⟨k, m, hk, rfl, rfl, rfl, HM, HM6, HAP, HB2⟩ := hrel
    by_cases hlt : k < l.length
    ·have hki : (k : Int) < (l.length : Int) := by omega
     obtain ⟨p, hp⟩ := at_lt l k hlt
     obtain ⟨b, o, rfl, d0, d1, d2, d3, d4, d5⟩ := (HV.out.later HB2.out).at hp
     have hpos := HPOS.out p (List.mem_of_getElem? hp)
     obtain ⟨cc, hc⟩ : ∃ cc : Nat, p.c = (cc : Int) := ⟨p.c.toNat, by omega⟩
     have hc16 : cc < 16 := by omega
     have HP := hid hp
     have HC := hid hc
     have HS := hid (fun w => At.sethas_in m cc (by have := HM6.out; omega) (by omega) w)
     have hb' : Below W.heap.size W (wr.alloc (.cells #[.int .i64 (cc : Int), .int .i64 p.v0, .int .i64 p.v1, .int .i64 p.v2, .int .i64 p.v3, .int .i64 p.t] 47)) := HB2.out.alloc HB2.out.size _
     cases ht : m.testBit cc
     ·have WI := hid (fun w => At.with_in m cc (by have := HM6.out; omega) (by omega) w)
      have HN : Hid (wi m cc = mskP (l.take (k + 1))) := by show _ = _; rw [msk_next hp hc, ← HM.out]
      have HN6 : Hid (wi m cc < 65536) := At.wi_lt (n := 16) HM6.out hc16
      have HA' : Hid (Apart (l.take (k + 1))) := apart_snoc hp hc (fun x hx => (HPOS.out x hx).1) HAP.out (by rw [← HM.out]; exact ht)
      have HB' := hid hb'
      rw [ht] at HS
      generalize wi m cc = m2 at *
      clear hp hpos ht HM HM6 hb'
      go_wp2_with (first
       | (go_at_call 47; refine (HS.out _).mono ?_; rintro e w2 ⟨rfl, rfl⟩)
       | (go_at_call 49; refine (WI.out _).mono ?_; rintro e w2 ⟨rfl, rfl⟩))
      go_roundg (l.length - (k + 1))
      case measure => omega
      case rel => exact ⟨k + 1, m2, by omega, rfl, by go_num, rfl, HN.out, HN6.out, HA'.out, HB'.out⟩
     ·rw [ht] at HS
      have HU : Hid (chkL s.ws l = 9) := by
       show chkL s.ws l = 9
       unfold chkL
       rw [if_pos (List.all_eq_true.2 HALL.out), if_neg]
       exact not_apart hp hc (fun x hx => (HPOS.out x hx).1) (by rw [← HM.out]; exact ht)
      obtain ⟨w3, hw3⟩ : ∃ w3, w3 = wr.alloc (.cells #[.int .i64 (cc : Int), .int .i64 p.v0, .int .i64 p.v1, .int .i64 p.v2, .int .i64 p.v3, .int .i64 p.t] 47) := ⟨_, rfl⟩
      have y : w3.heap[wr.heap.size]? = some (.cells #[.int .i64 (cc : Int), .int .i64 p.v0, .int .i64 p.v1, .int .i64 p.v2, .int .i64 p.v3, .int .i64 p.t] 47 (0, 0)) := by rw [hw3]; exact heap_alloc_new wr _
      have y0 := cell_blk y (j := 0) rfl
      rw [← hw3] at hb'
      have B3 := hid hb'
      have HW3 := hid hw3
      have IT := hid (Sc.itoa_any k (by omega))
      have KE : Hid (∀ W', Below w3.heap.size w3 W' → W'.cell? ⟨1, 0, none⟩ = some (.iface 278 (.pointer (some (Ad 9))))) := fun W' hb => e9 ((HE.out.later B3.out).later hb)
      have AC : Hid (∀ W', Calls Tryz.prog 63 #[.string (Sc.dig k), .iface 278 (.pointer (some (Ad 9)))] W' fun e w' => ∃ t q, e = .returned (.iface t q) ∧ Err Ad w' (.iface t q) 9 1 ∧ Below W'.heap.size W' w') := fun W' => at_err Ad (Sc.dig k) _ 9 0 W' (err_leaf Ad _ 9 (by decide))
      clear hp hpos ht HM HM6 hb' y hw3
      go_upto_region 12 with fail
      rw [← HW3.out]
      go_wp2_with (go_at_call 47; refine (HS.out _).mono ?_; rintro e w2 ⟨rfl, hq⟩; obtain rfl := hq.symm)
      go_region_held3 (fun W' => W'.cell? ⟨1, 0, none⟩ = some (.iface 278 (.pointer (some (Ad 9)))))
       (first | exact KE.out _ (Below.refl _ _).drew | exact KE.out _ (Below.refl _ _) | exact KE.out _ B6.out)
       (first
        | (go_at_call 113; refine (IT.out _).mono ?_; rintro e w5 ⟨rfl, rfl⟩)
        | (go_at_call 63; refine (AC.out _).mono ?_; rintro e w6 ⟨t6, q6, rfl, hv6, hb6⟩; have V6 := hid hv6; have B6 : Hid (Below w3.heap.size w3 w6) := (by first | exact (Below.refl _ _).drew.trans hb6 | exact (Below.refl _ _).drew.drew.trans hb6 | exact hb6); clear hv6 hb6))
      have B7 : Hid (Below W.heap.size W w6) := B3.out.trans (B6.out.mono B3.out.size)
      clear B6 KE AC IT
      go_wp2_with fail
      go_ret
      exact ⟨_, rfl, by rw [HU.out]; exact Er.of (by decide) V6.out, B7.out⟩
    ·have hki : ¬ ((k : Int) < (l.length : Int)) := by omega
     obtain rfl : k = l.length := by omega
     have HU : Hid (chkL s.ws l = 0) := by
      show chkL s.ws l = 0
      have := HAP.out
      rw [List.take_length] at this
      unfold chkL
      rw [if_pos (List.all_eq_true.2 HALL.out)]
      exact if_pos this
     go_wp2_with fail
     go_ret
     exact ⟨_, rfl, by rw [HU.out]; exact Er.none _ _, HB2.out⟩
end So
namespace So
open Go.RowKit Go.Shelf Go.Maps
open Co (I64)
open Rs (Prt SD insP insr insP_rec insr_sorted)
theorem insr_perm (p : Prt) : ∀ l : List Prt, (insr p l).Perm (p :: l)
 | [] => by simp [insr]
 | x :: l => by
  unfold insr
  split
  ·exact List.Perm.refl _
  ·exact ((insr_perm p l).cons x).trans (List.Perm.swap p x l)
def sortP (l : List Prt) : List Prt := l.foldl insP []
theorem sort_snoc (l : List Prt) (p : Prt) : sortP (l ++ [p]) = insP (sortP l) p := by unfold sortP; rw [List.foldl_append]; rfl
theorem fold_perm : ∀ (l acc : List Prt), (l.foldl insP acc).Perm (acc ++ l)
 | [], acc => by simp
 | p :: l, acc => by
  rw [List.foldl_cons]
  refine (fold_perm l _).trans ?_
  rw [insP_rec]
  refine ((insr_perm p acc).append_right l).trans ?_
  exact List.perm_middle.symm
theorem sort_perm (l : List Prt) : l.Perm (sortP l) := by
 have := fold_perm l []
 simpa [sortP] using this.symm
theorem fold_sorted : ∀ (l acc : List Prt), acc.Pairwise (fun x y => x.c < y.c) → Apart (acc ++ l) → (l.foldl insP acc).Pairwise (fun x y => x.c < y.c)
 | [], acc, h, _ => h
 | p :: l, acc, h, ha => by
  rw [List.foldl_cons]
  have hp : ∀ x ∈ acc, x.c ≠ p.c := fun x hx => by
   rw [Apart, List.pairwise_append] at ha
   exact ha.2.2 x hx p (by simp)
  refine fold_sorted l _ ?_ ?_
  ·rw [insP_rec]; exact insr_sorted h hp
  ·rw [insP_rec]
   exact apart_perm ha (List.perm_middle.trans (((insr_perm p acc).append_right l).symm))
theorem sort_ok {ws : List Nat} {l : List Prt} (h : chkL ws l = 0) (ht : ∀ p ∈ l, I64 p.t) : okE ws (sortP l) := by
 obtain ⟨h1, h2⟩ := chk_ok h
 refine ⟨⟨fold_sorted l [] (by simp) (by simpa using h2), fun x hx => ?_⟩, fun x hx => ?_⟩
 ·exact Rs.fit_range (h1 x ((sort_perm l).mem_iff.2 hx))
 ·have := (sort_perm l).mem_iff.2 hx
  exact ⟨h1 x this, ht x this⟩
section
variable {B : Nat} {W W' : World} {sb t : Nat} {s s' : SD} {S : Nat → Prop}
end
end So
namespace So
open Go.RowKit Go.Shelf Go.Maps
open Co (I64)
open At (St bAl cell_blk blk_seen blk_free at_err)
open Ro (ErrAt)
open Rs (Prt SD PRow)
theorem zero_ent {W : World} {k : Nat} (h : W.heap[k]? = some (.cells #[.int .i64 0, .int .i64 0] 43 (0, 0))) (a b : Value) : ((W.setCell ⟨k, 0, none⟩ a).setCell ⟨k, 1, none⟩ b).heap[k]? = some (.cells #[a, b] 43 (0, 0)) :=
 heap_setCell_same _ k 1 _ 43 b (heap_setCell_same W k 0 _ 43 a h)
theorem two_st (W : World) (k : Nat) (a b : Value) : St (fun x => x = k) W ((W.setCell ⟨k, 0, none⟩ a).setCell ⟨k, 1, none⟩ b) :=
 (St.setCell (S := fun x => x = k) (p := ⟨k, 0, none⟩) a rfl).trans (St.setCell (S := fun x => x = k) (p := ⟨k, 1, none⟩) b rfl) fun _ _ q => q
theorem errat_er {Ad : Nat → Addr} {W : World} {t : TypeId} {q : Value} {b : ByteArray} {k : Nat} (h0 : k ≠ 0) (h : ErrAt Ad W (.iface t q) b k) : Er Ad W (.iface t q) k 1 := Er.of h0 (d := 1) ⟨[b], h⟩
theorem Er.zero {Ad : Nat → Addr} {W : World} {v : Value} {n : Nat} (h : Er Ad W v 0 n) : v = .nilIface := h.elim (fun q => q.2) fun q => absurd rfl q.1
theorem ro_st' {S : Nat → Prop} {a b : World} (h : Ro.St S a b) : St S a b := ⟨h.os, h.tape, h.output, h.size, h.block⟩
set_option maxHeartbeats 1600000 in
set_option maxRecDepth 100000 in
theorem spawn_bad (Ad : Nat → Addr) {B : Nat} {W : World} {sb : Nat} {c : CV} {s : SD} (h : Sto none B W sb c s) (hE : Env8 W Ad) {v : Value} {l : List Prt} (hv : PRow W v l) (hl : l.length ≤ 90) (hc : chkL s.ws l ≠ 0) :
  Calls Tryz.prog 16 #[.pointer (some ⟨sb, 0, none⟩), v] W fun e W' => ∃ r, e = .returned (.tuple #[.agg #[.int .i64 0, .int .i64 0], r]) ∧ Er Ad W' r (chkL s.ws l) ∧ Below W.heap.size W W' := by
 obtain ⟨w1, hw1⟩ : ∃ w1, w1 = W.alloc (.cells #[.int .i64 0, .int .i64 0] 43) := ⟨_, rfl⟩
 have b1 : Below W.heap.size W w1 := by rw [hw1]; exact bAl _ _
 have r1 : w1.heap[W.heap.size]? = some (.cells #[.int .i64 0, .int .i64 0] 43 (0, 0)) := by rw [hw1]; exact heap_alloc_new W _
 have CK := hid (checkAll_any Ad (h.later b1) (hE.later b1) (hv.later b1) hl)
 have HW1 := hid hw1
 have B1 := hid b1
 have R1 := hid r1
 generalize chkL s.ws l = k at *
 clear hw1 b1 hE r1 h hv
 go_enter Tryz.func16, Tryz.ntmps16
 go_upto_region 1 with fail
 rw [← HW1.out]
 go_wp2_with fail
 refine CK.out.mono ?_
 rintro e w2 ⟨r, rfl, q1, q2⟩
 rcases q1 with ⟨q1, -⟩ | ⟨-, t, q, rfl, d, hd⟩
 ·exact absurd q1 hc
 have AC := hid (fun str => at_err Ad str _ k _ w2 hd)
 have B2 := hid (B1.out.trans (q2.mono B1.out.size))
 have R2 := hid (blk_seen q2 (Nat.le_refl _) R1.out)
 clear q2 hd CK R1
 go_wp2_with fail
 refine (AC.out _).mono ?_
 rintro e w3 ⟨t3, q3, rfl, hv3, hb3⟩
 have HV := hid hv3
 have B3 := hid (B2.out.trans (hb3.mono B2.out.size))
 have R3 := hid (blk_seen hb3 (Nat.le_refl _) R2.out)
 have d0 := cell_blk R3.out (j := 0) rfl
 have d1 := cell_blk R3.out (j := 1) rfl
 have f0 := blk_free R3.out 0
 have f1 := blk_free R3.out 1
 clear hv3 hb3 AC R2 B2
 go_wp2_with fail
 have hsame : (w3.setCell ⟨W.heap.size, 0, none⟩ (.int .i64 0)).setCell ⟨W.heap.size, 1, none⟩ (.int .i64 0) = w3 := by
  rw [Co.set_same R3.out rfl, Co.set_same R3.out rfl]
 rw [hsame]
 exact bodyPost_ret (v := .tuple #[.agg #[.int .i64 0, .int .i64 0], .iface t3 q3]) (by simp [results, Tryz.results16, go_sem, d0, d1]) rfl ⟨_, rfl, Er.of hc HV.out, B3.out⟩
set_option maxHeartbeats 1600000 in
set_option maxRecDepth 100000 in
theorem spawn_full (Ad : Nat → Addr) {B : Nat} {W : World} {sb : Nat} {c : CV} {s : SD} (h : Sto none B W sb c s) (hE : Env8 W Ad) {v : Value} {l : List Prt} (hv : PRow W v l) (hl : l.length ≤ 90) (hc : chkL s.ws l = 0) (hf : s.r.free = []) :
  Calls Tryz.prog 16 #[.pointer (some ⟨sb, 0, none⟩), v] W fun e W' => ∃ r, e = .returned (.tuple #[.agg #[.int .i64 0, .int .i64 0], r]) ∧ Er Ad W' r 6 ∧ Below W.heap.size W W' := by
 obtain ⟨w1, hw1⟩ : ∃ w1, w1 = W.alloc (.cells #[.int .i64 0, .int .i64 0] 43) := ⟨_, rfl⟩
 have b1 : Below W.heap.size W w1 := by rw [hw1]; exact bAl _ _
 have r1 : w1.heap[W.heap.size]? = some (.cells #[.int .i64 0, .int .i64 0] 43 (0, 0)) := by rw [hw1]; exact heap_alloc_new W _
 have CK := hid (checkAll_any Ad (h.later b1) (hE.later b1) (hv.later b1) hl)
 rw [hc] at CK
 have H1 := hid (h.later b1)
 have HE := hid (hE.later b1)
 have HW1 := hid hw1
 have B1 := hid b1
 have R1 := hid r1
 clear hw1 b1 hE r1 h hv
 go_enter Tryz.func16, Tryz.ntmps16
 go_upto_region 1 with fail
 rw [← HW1.out]
 go_wp2_with fail
 refine CK.out.mono ?_
 rintro e w2 ⟨r, rfl, q1, q2⟩
 obtain rfl := q1.zero
 have H2 := hid (H1.out.later q2)
 have c3 := H2.out.c3
 have TK := hid (Ro.rol_full Ad H2.out.rol (Env8.four (HE.out.later q2)) hf)
 have B2 := hid (B1.out.trans (q2.mono B1.out.size))
 have R2 := hid (blk_seen q2 (Nat.le_refl _) R1.out)
 clear q2 CK R1 hf
 go_wp2_with fail
 refine TK.out.mono ?_
 rintro e w3 ⟨b, rfl, hbb, hv3, hb3⟩
 obtain ⟨w4, hw4⟩ : ∃ w4, w4 = w3.alloc (.cells #[.int .i64 0, .int .i64 0] 43) := ⟨_, rfl⟩
 have b4 : Below w3.heap.size w3 w4 := by rw [hw4]; exact bAl _ _
 have AC := hid (fun str => at_er Ad str _ 6 w4 (m := 9) ((errat_er (by decide) hv3).later b4))
 have B4 := hid ((B2.out.trans (hb3.mono B2.out.size)).trans (b4.mono (Nat.le_trans B2.out.size hb3.size)))
 have R4 := hid (blk_seen b4 (Nat.le_refl _) (blk_seen hb3 (Nat.le_refl _) R2.out))
 have HW4 := hid hw4
 clear hv3 hb3 b4 hw4 TK c3
 go_upto_region 7 with fail
 rw [← HW4.out]
 go_wp2_with fail
 refine (AC.out _).mono ?_
 rintro e w5 ⟨r5, rfl, hv5, hb5⟩
 have HV := hid hv5
 have B5 := hid (B4.out.trans (hb5.mono B4.out.size))
 have R5 := hid (blk_seen hb5 (Nat.le_refl _) R4.out)
 have d0 := cell_blk R5.out (j := 0) rfl
 have d1 := cell_blk R5.out (j := 1) rfl
 have f0 := blk_free R5.out 0
 have f1 := blk_free R5.out 1
 clear hv5 hb5 AC R4 B4
 go_wp2_with fail
 have hsame : (w5.setCell ⟨W.heap.size, 0, none⟩ (.int .i64 0)).setCell ⟨W.heap.size, 1, none⟩ (.int .i64 0) = w5 := by
  rw [Co.set_same R5.out rfl, Co.set_same R5.out rfl]
 rw [hsame]
 exact bodyPost_ret (v := .tuple #[.agg #[.int .i64 0, .int .i64 0], r5]) (by simp [results, Tryz.results16, go_sem, d0, d1]) rfl ⟨_, rfl, HV.out, B5.out⟩
set_option maxHeartbeats 3200000 in
set_option maxRecDepth 100000 in
theorem spawn_ok (Ad : Nat → Addr) {B : Nat} {W : World} {sb : Nat} {c : CV} {s : SD} (h : Sto none B W sb c s) (hE : Env8 W Ad) {v : Value} {l : List Prt} (hv : PRowOut (fun k => c.f k ≠ (0, 0, 0)) W v l) (hl : l.length ≤ 90) (hc : chkL s.ws l = 0) (hti : ∀ p ∈ l, I64 p.t) {f : List Nat} {i : Nat} (hf : s.r.free = f ++ [i]) (ht : c.t ≤ 1000) :
  Calls Tryz.prog 16 #[.pointer (some ⟨sb, 0, none⟩), v] W fun e W' => e = .returned (.tuple #[.agg #[.int .i64 (i : Int), .int .i64 ((s.r.gens.getD i 0 + 1 : Nat) : Int)], .nilIface]) ∧ ∃ c', Sto none B W' sb c' (entered { s with r := s.r.took i } i (sortP l)) ∧ c'.t = c.t + 1 ∧ Gw c c' W W' := by
 obtain ⟨w1, hw1⟩ : ∃ w1, w1 = W.alloc (.cells #[.int .i64 0, .int .i64 0] 43) := ⟨_, rfl⟩
 have b1 : Below W.heap.size W w1 := by rw [hw1]; exact bAl _ _
 have r1 : w1.heap[W.heap.size]? = some (.cells #[.int .i64 0, .int .i64 0] 43 (0, 0)) := by rw [hw1]; exact heap_alloc_new W _
 have CK := hid (checkAll_any Ad (h.later b1) (hE.later b1) (hv.row.later b1) hl)
 rw [hc] at CK
 have H := hid h
 have HW1 := hid hw1
 have B1 := hid b1
 have R1 := hid r1
 have HV := hid hv.more
 have HF := hid hf
 have HO := hid (sort_ok hc hti)
 clear hw1 b1 hE r1 h hv hf hc hti
 go_enter Tryz.func16, Tryz.ntmps16
 go_upto_region 1 with fail
 rw [← HW1.out]
 go_wp2_with fail
 refine CK.out.mono ?_
 rintro e w2 ⟨r, rfl, q1, q2⟩
 obtain rfl := q1.zero
 have B2 := hid (B1.out.trans (q2.mono B1.out.size))
 have H2 := hid (H.out.later B2.out)
 have c3 := H2.out.c3
 have TK := hid (Ro.rol_take H2.out.rol HF.out ht)
 have R2 := hid (blk_seen q2 (Nat.le_refl _) R1.out)
 clear q2 CK R1
 go_wp2_with fail
 refine TK.out.mono ?_
 rintro e w3 ⟨rfl, hr3, hs3⟩
 have hs3' := ro_st' hs3
 obtain ⟨f3, h3, g3⟩ := H2.out.roll hr3 hs3' (fun k hk => .inl hk) (H2.out.lk.take H.out.rol.ok HF.out) (by have := H.out.small; omega)
 obtain ⟨gn, hgn⟩ : ∃ gn : Nat, gn = s.r.gens.getD i 0 + 1 := ⟨_, rfl⟩
 have hgi : ((s.r.gens.getD i 0 : Nat) : Int) + 1 = (gn : Int) := by rw [hgn]; simp
 rw [hgi]
 have G3 := (Gw.of_below (c := c) B2.out).trans g3
 have hal : al { s with r := s.r.took i } i gn := (al_took H.out.rol.ok HF.out i gn).2 (.inl ⟨rfl, hgn⟩)
 have O3 : Hid (f3 W.heap.size = (0, 0, 0)) := Classical.byContradiction fun q => by
  rcases g3.new _ q with q | q
  ·have := (H.out.lt _ q).2; omega
  ·have := (Array.getElem?_eq_some_iff.1 R2.out).1; omega
 have x3 : w3.heap[W.heap.size]? = some (.cells #[.int .i64 0, .int .i64 0] 43 (0, 0)) := g3.st.at R2.out fun q => by have := (H.out.lt _ q).2; omega
 have v3 := (HV.out.kept (T := fun _ => False) (St.of_below B2.out) fun _ q => q.elim).kept g3.st fun k q => .inl q
 obtain ⟨w4, hw4⟩ : ∃ w4, w4 = w3.alloc (.cells #[.int .i64 (i : Int), .int .i64 (gn : Int)] 43) := ⟨_, rfl⟩
 have b4 : Below w3.heap.size w3 w4 := by rw [hw4]; exact bAl _ _
 have r4 : w4.heap[w3.heap.size]? = some (.cells #[.int .i64 (i : Int), .int .i64 (gn : Int)] 43 (0, 0)) := by rw [hw4]; exact heap_alloc_new w3 _
 have EN := hid (enter_any (h3.later b4) hal ((v3.kept (T := fun _ => False) (St.of_below b4) fun _ q => q.elim).mono fun k q => G3.new k q) (sort_perm l) HO.out)
 have H3 := hid h3
 have GG3 := hid (G3.trans (Gw.of_below b4))
 have X4 := hid (blk_seen b4 (Nat.le_refl _) x3)
 have R4 := hid r4
 have HW4 := hid hw4
 have HGN := hid hgn
 have y0 := cell_blk r4 (j := 0) rfl
 have y1 := cell_blk r4 (j := 1) rfl
 have hW3 : W.heap.size < w3.heap.size := (Array.getElem?_eq_some_iff.1 x3).1
 clear hr3 hs3 hs3' h3 g3 hgn hgi G3 hal x3 v3 b4 r4 hw4 TK c3 R2
 go_upto_region 7 with fail
 rw [← HW4.out]
 go_wp2_with fail
 refine EN.out.mono ?_
 rintro e w5 ⟨rfl, c5, h5, t5, g5⟩
 have G5 := hid (GG3.out.trans g5)
 have H5 := hid h5
 have T5 := hid t5
 have x5 : w5.heap[W.heap.size]? = some (.cells #[.int .i64 0, .int .i64 0] 43 (0, 0)) := g5.st.at X4.out fun q => q O3.out
 have r5 : w5.heap[w3.heap.size]? = some (.cells #[.int .i64 (i : Int), .int .i64 (gn : Int)] 43 (0, 0)) := g5.st.at R4.out fun q => by have := (H3.out.lt _ q).2; omega
 have X5 := hid x5
 have z0 := cell_blk r5 (j := 0) rfl
 have z1 := cell_blk r5 (j := 1) rfl
 have d0 := cell_blk x5 (j := 0) rfl
 have d1 := cell_blk x5 (j := 1) rfl
 have f0 := blk_free x5 0
 have f1 := blk_free x5 1
 have hne : ¬ (w3.heap.size = W.heap.size) := by omega
 have PS := hid (two_st w5 W.heap.size (.int .i64 (i : Int)) (.int .i64 (gn : Int)))
 have PB := hid (zero_ent x5 (.int .i64 (i : Int)) (.int .i64 (gn : Int)))
 have O5 : Hid (c5.f W.heap.size = (0, 0, 0)) := Classical.byContradiction fun q => by
  rcases g5.new _ q with q | q
  ·exact q O3.out
  ·have := (Array.getElem?_eq_some_iff.1 X4.out).1; omega
 clear h5 t5 g5 x5 r5 EN
 go_wp2_with fail
 obtain ⟨w6, hw6⟩ : ∃ w6, w6 = (w5.setCell ⟨W.heap.size, 0, none⟩ (.int .i64 (i : Int))).setCell ⟨W.heap.size, 1, none⟩ (.int .i64 (gn : Int)) := ⟨_, rfl⟩
 rw [← hw6] at PS PB ⊢
 have t0 := cell_blk PB.out (j := 0) rfl
 have t1 := cell_blk PB.out (j := 1) rfl
 have hk : ∀ k, c5.f k ≠ (0, 0, 0) → ¬ k = W.heap.size := fun k q e => q (by rw [e]; exact O5.out)
 refine bodyPost_ret (v := .tuple #[.agg #[.int .i64 (i : Int), .int .i64 (gn : Int)], .nilIface]) (by simp [results, Tryz.results16, go_sem, t0, t1]) rfl ⟨by rw [HGN.out], c5, H5.out.keep PS.out hk, T5.out, ?_⟩
 refine ⟨G5.out.st.trans PS.out fun k hk' e => ?_, G5.out.new⟩
 omega
end So
end Go.Proofs.YtnlcbheidiigaaaGreatDoor
