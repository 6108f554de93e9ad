/- A part of the proof. -/
import Derived.Test.YthadfdbkkmmgoaaGreatDoorMao
namespace Go.Proofs.YthadfdbkkmmgoaaGreatDoor
namespace Wo
open Go.RowKit Go.Shelf Go.Maps
open At (St)
open Rs (Prt Prts)
open Sc (Cmp)
def stL (cs : List Cmp) (L : Bgs) : Bgs := L.map fun x => (x.1, x.2.filter (stays cs))
def stM (cs : List Cmp) (L : Bgs) (j : Nat) : Bgs := stL cs (L.take j) ++ L.drop j
theorem stM_len (cs : List Cmp) (L : Bgs) (j : Nat) : (stM cs L j).length = L.length := by unfold stM stL; rw [List.length_append, List.length_map, ← List.length_append, List.take_append_drop]
theorem stM_at {cs : List Cmp} {L : Bgs} {j : Nat} {x : Int × List Prt} (h : L[j]? = some x) : (stM cs L j)[j]? = some x := by
 have hl := (List.getElem?_eq_some_iff.1 h).1
 unfold stM stL
 rw [List.getElem?_append_right (by simp; omega), List.length_map, List.length_take, Nat.min_eq_left (by omega), Nat.sub_self, List.getElem?_drop]
 exact h
theorem stM_next {cs : List Cmp} {L : Bgs} {j : Nat} {id : Int} {row : List Prt} (h : L[j]? = some (id, row)) : (stM cs L j).set j (id, row.filter (stays cs)) = stM cs L (j + 1) := by
 obtain ⟨hl, e⟩ := List.getElem?_eq_some_iff.1 h
 unfold stM stL
 rw [List.set_append_right _ _ (by simp; omega), List.length_map, List.length_take, Nat.min_eq_left (by omega), Nat.sub_self, List.drop_eq_getElem_cons hl, List.set_cons_zero, List.take_succ_eq_append_getElem hl, List.map_append, e]
 simp
theorem stM_end (cs : List Cmp) (L : Bgs) : stM cs L L.length = stL cs L := by unfold stM; rw [List.take_length, List.drop_length, List.append_nil]
theorem Bes.put {N : Nat} {W w' : World} {g n c j : Nat} {E : List (Int × Value)} {L : Bgs} {id : Int} {pv pv' : Value} {row row' : List Prt} (h : Bes N W (.slice (some ⟨g, 0, none⟩) n c) E L) (hj : E[j]? = some (id, pv)) (hL : L[j]? = some (id, row)) (hp : Prts N W pv row) (hs : St (fun x => pv.ownBlock = some x) W w') (hp' : Prts N w' pv' row') (ho : ∀ y, pv'.ownBlock = some y → pv.ownBlock = some y) :
  Bes N (w'.setCell ⟨g, j * 2 + 1, none⟩ pv') (.slice (some ⟨g, 0, none⟩) n c) (E.set j (id, pv')) (L.set j (id, row')) := by
 have hg : ∀ {N2 : Nat} {w : World} {u : Value} {ps : List Prt}, Prts N2 w u ps → (∃ cur, w.heap[g]? = some (.cells cur 133 (0, 0))) → ∀ y, u.ownBlock = some y → y ≠ g := fun {N2 w u ps} hu hc y hy e => by
  obtain ⟨c1, q1⟩ := So.own_blk hu hy
  obtain ⟨c2, q2⟩ := hc
  rw [e, q2] at q1
  simp at q1
 obtain ⟨-, -, cur, hcur, -⟩ := h.row.blk
 have hng := fun y hy => hg hp ⟨cur, hcur⟩ y hy
 have hrow : BeR N w' (.slice (some ⟨g, 0, none⟩) n c) E := h.row.kept hs fun y hy q => hng y q (by simpa [Value.ownBlock] using hy.symm)
 have hcur' : w'.heap[g]? = some (.cells cur 133 (0, 0)) := hs.at hcur fun q => hng g q rfl
 have hst : St (fun k => k = g) w' (w'.setCell ⟨g, j * 2 + 1, none⟩ pv') := St.setCell _ rfl
 have hjl := (List.getElem?_eq_some_iff.1 hj).1
 refine ⟨hrow.set hj pv', by rw [List.length_set, List.length_set]; exact h.len, fun i id2 pv2 hi => ?_, ?_⟩
 ·by_cases e : i = j
  ·subst e
   rw [List.getElem?_set_self hjl] at hi
   obtain ⟨rfl, rfl⟩ : id = id2 ∧ pv' = pv2 := by simpa using hi
   refine ⟨row', by rw [List.getElem?_set_self (by rw [← h.len]; exact hjl)], So.own_kept hp' hst fun y hy => hng y (ho y hy)⟩
  ·rw [List.getElem?_set_ne (fun q => e q.symm)] at hi
   obtain ⟨ps, q1, q2⟩ := h.at' i id2 pv2 hi
   refine ⟨ps, by rw [List.getElem?_set_ne (fun q => e q.symm)]; exact q1, ?_⟩
   refine So.own_kept (So.own_kept q2 hs fun y hy q => ?_) hst fun y hy => hg q2 ⟨cur, hcur⟩ y hy
   obtain ⟨hil, ei⟩ := List.getElem?_eq_some_iff.1 hi
   obtain ⟨hjl, ej⟩ := List.getElem?_eq_some_iff.1 hj
   rcases Nat.lt_or_gt_of_ne e with lt | lt
   ·have := List.pairwise_iff_getElem.1 h.apart i j hil hjl lt
    rw [ei, ej] at this
    exact this y hy q
   ·have := List.pairwise_iff_getElem.1 h.apart j i hjl hil lt
    rw [ei, ej] at this
    exact this y q hy
 ·rw [List.pairwise_iff_getElem]
  intro i1 i2 h1 h2 hlt k hk hk2
  rw [List.length_set] at h1 h2
  have A := List.pairwise_iff_getElem.1 h.apart i1 i2 h1 h2 hlt
  obtain ⟨hjl2, ej⟩ := List.getElem?_eq_some_iff.1 hj
  rw [List.getElem_set] at hk hk2
  split at hk
  ·rename_i e1
   split at hk2
   ·omega
   ·subst e1
    rw [ej] at A
    exact A k (ho k hk) hk2
  ·split at hk2
   ·rename_i e2
    subst e2
    rw [ej] at A
    exact A k hk (ho k hk2)
   ·exact A k hk hk2
abbrev put5 (W : World) (b : Nat) (v0 v1 v2 v3 v4 : Value) : World := ((((W.setCell ⟨b, 0, none⟩ v0).setCell ⟨b, 1, none⟩ v1).setCell ⟨b, 2, none⟩ v2).setCell ⟨b, 3, none⟩ v3).setCell ⟨b, 4, none⟩ v4
theorem put5_blk {W : World} {b : Nat} {a0 a1 a2 a3 a4 : Value} {e : TypeId} (h : W.heap[b]? = some (.cells #[a0, a1, a2, a3, a4] e (0, 0))) (v0 v1 v2 v3 v4 : Value) : (put5 W b v0 v1 v2 v3 v4).heap[b]? = some (.cells #[v0, v1, v2, v3, v4] e (0, 0)) := by
 have h1 := heap_setCell_same W b 0 _ e v0 h
 have h2 := heap_setCell_same _ b 1 _ e v1 h1
 have h3 := heap_setCell_same _ b 2 _ e v2 h2
 have h4 := heap_setCell_same _ b 3 _ e v3 h3
 have h5 := heap_setCell_same _ b 4 _ e v4 h4
 simpa using h5
theorem put5_st (W : World) (b : Nat) (v0 v1 v2 v3 v4 : Value) : St (fun k => k = b) W (put5 W b v0 v1 v2 v3 v4) := by
 have c := fun (w : World) (j : Nat) (v : Value) => St.setCell (S := fun k => k = b) (a := w) (p := ⟨b, j, none⟩) v rfl
 exact ((((c W 0 _).trans (c _ 1 _) fun _ _ q => q).trans (c _ 2 _) fun _ _ q => q).trans (c _ 3 _) fun _ _ q => q).trans (c _ 4 _) fun _ _ q => q
section
variable {B : Nat} {G G' : Own} {W W' : World} {wb : Nat} {k : WK} {t : Nat} {a : AP} {Ad : Nat → Addr}
theorem wnext_any (h : Wa B G W wb k t a) : Calls Tryz.prog 68 #[.pointer (some ⟨k.x.bb, 0, none⟩)] W fun e W' => e = .returned (.int .i64 a.n) ∧ W' = W := by
 obtain ⟨⟨p, h1, h2, h3, h4, h5, h6, -⟩, -⟩ := h
 obtain ⟨ob, nb, q1, -⟩ := h1.z.bd
 rw [← h6]
 exact Bd.next_any q1
theorem wall_any (h : Wa B G W wb k t a) : Calls Tryz.prog 69 #[.pointer (some ⟨k.x.gb, 0, none⟩)] W fun e W' => ∃ ra rn rc, e = .returned (.slice ra rn rc) ∧ NumO W.heap.size W' (.slice ra rn rc) a.gl ∧ Below W.heap.size W W' := by
 obtain ⟨⟨p, h1, h2, h3, h4, h5, h6, h7, h8, h9⟩, -⟩ := h
 obtain ⟨mb, v, q1, -⟩ := h1.z.gd
 rw [← h9]
 refine (Gs.all_any q1).mono ?_
 rintro e W' ⟨v', rfl, q2, q3⟩
 obtain ⟨ra, rc, rfl⟩ := own_slice q2
 exact ⟨ra, _, rc, rfl, q2, q3⟩
theorem Wa.cells (h : Wa B G W wb k t a) : W.cell? ⟨wb, 7, none⟩ = some (.int .i64 a.fr) ∧ W.cell? ⟨wb, 4, none⟩ = some (.pointer (some ⟨k.x.bb, 0, none⟩)) ∧ W.cell? ⟨wb, 8, none⟩ = some (.int .i64 a.sd) ∧ W.cell? ⟨wb, 5, none⟩ = some (.pointer (some ⟨k.x.gb, 0, none⟩)) := by
 obtain ⟨⟨p, h1, h2, h3, h4, h5, h6, h7, h8, h9⟩, -⟩ := h
 rw [← h7, ← h8]
 exact ⟨h1.z.cell (j := 7) rfl, h1.z.cell (j := 4) rfl, h1.z.cell (j := 8) rfl, h1.z.cell (j := 5) rfl⟩
end
end Wo
namespace Wo
open Go.RowKit Go.Shelf Go.Maps
open At (bAl cell_blk blk_seen blk_free)
section
variable {B : Nat} {G G' : Own} {W W' : World} {wb : Nat} {k : WK} {t : Nat} {a : AP} {Ad : Nat → Addr}
def zS : Obj := .cells #[.int .i64 0, .int .i64 0, .int .i64 0, .slice none 0 0, .slice none 0 0] 76
set_option maxHeartbeats 6400000 in
set_option maxRecDepth 100000 in
theorem state_any (h : Wa B G W wb k t a) (hrow : ∀ x ∈ a.L, x.2.length ≤ 1000) :
  Calls Tryz.prog 30 #[.pointer (some ⟨wb, 0, none⟩)] W fun e W' => ∃ ba bn bc ra rn rc, e = .returned (.agg #[.int .i64 a.fr, .int .i64 a.n, .int .i64 a.sd, .slice ba bn bc, .slice ra rn rc]) ∧ (∃ E, Bes W.heap.size W' (.slice ba bn bc) E (stL k.x.cs a.L)) ∧ NumO W.heap.size W' (.slice ra rn rc) a.gl ∧ Below W.heap.size W W' := by
 obtain ⟨w1, hw1⟩ : ∃ w1, w1 = (W.alloc (.cells #[.pointer (some ⟨wb, 0, none⟩)] 40)).alloc zS := ⟨_, rfl⟩
 obtain ⟨b1, r1, p1⟩ := Rs.two_blk W #[.pointer (some ⟨wb, 0, none⟩)] #[.int .i64 0, .int .i64 0, .int .i64 0, .slice none 0 0, .slice none 0 0] 40 76
 change Below W.heap.size W ((W.alloc _).alloc zS) at b1
 change ((W.alloc _).alloc zS).heap[W.heap.size]? = _ at r1
 change ((W.alloc _).alloc zS).heap[W.heap.size + 1]? = _ at p1
 rw [← hw1] at b1 r1 p1
 have hz1 : w1.heap.size = W.heap.size + 2 := by rw [hw1]; simp
 have VW := hid (view_any (h.later b1))
 have x0 : w1.cell? ⟨W.heap.size, 0, none⟩ = some (.pointer (some ⟨wb, 0, none⟩)) := cell_blk r1 rfl
 have HH := hid (h.later b1)
 have H0 := hid h
 have HROW := hid hrow
 have HFEW := h.few
 have B1 := hid b1
 have R1 := hid r1
 have P1 := hid p1
 have HZ1 := hid hz1
 have HW1 := hid hw1
 clear h b1 r1 p1 hw1 hz1 hrow
 go_enter Tryz.func30, Tryz.ntmps30
 unfold zS at HW1
 go_upto_region 1 with fail
 rw [← HW1.out]
 go_wp2_with fail
 refine VW.out.mono ?_
 rintro e w2 ⟨bv, rfl, ⟨E0, hE0⟩, hb2⟩
 obtain ⟨ba, bc, rfl⟩ := hE0.slice
 have E0' : Hid (Bes w1.heap.size w2 (.slice ba a.L.length bc) E0 (stM k.x.cs a.L 0)) := hid (by unfold stM stL; rw [List.take_zero, List.map_nil, List.nil_append, List.drop_zero]; exact hE0)
 have B2 := hid hb2
 have hli : (a.L.length : Int) ≤ 64 := by omega
 clear hE0 hb2 VW x0
 go_wp2_with fail
 go_loopg [4, 5, 13] a.L.length (fun gh _ _ q wr => ∃ (j : Nat) (E : List (Int × Value)), j ≤ a.L.length ∧ gh = a.L.length - j ∧ q = .int .i64 (j : Int) ∧ Hid (Bes w1.heap.size wr (.slice ba a.L.length bc) E (stM k.x.cs a.L j)) ∧ Hid (Below w1.heap.size w1 wr))
 case atStart => exact ⟨0, E0, Nat.zero_le _, rfl, rfl, E0'.out, B2.out⟩
 case round =>
  rename World => wr
  obtain ⟨j, E, hj, rfl, rfl, HE, HB⟩ := hrel
  clear E0'
  have y0 : wr.cell? ⟨W.heap.size, 0, none⟩ = some (.pointer (some ⟨wb, 0, none⟩)) := cell_blk (blk_seen HB.out (Nat.le_refl _) R1.out) rfl
  by_cases hlt : j < a.L.length
  ·have hji : (j : Int) < (a.L.length : Int) := by omega
   obtain ⟨⟨id, row⟩, hx⟩ := at_lt a.L j hlt
   have hEl : E.length = a.L.length := by rw [HE.out.len, stM_len]
   obtain ⟨⟨id', pv⟩, hE⟩ := at_lt E j (by omega)
   obtain ⟨ps, hL, hps⟩ := HE.out.at' j id' pv hE
   rw [stM_at hx] at hL
   obtain ⟨rfl, rfl⟩ : id = id' ∧ row = ps := by simpa using hL
   obtain ⟨g, rfl, d0, d1⟩ := HE.out.row.at hE
   obtain ⟨pa, pc, rfl⟩ := hps.slice
   obtain ⟨-, -, cur, hcur, -⟩ := HE.out.row.blk
   obtain ⟨w3, hw3⟩ : ∃ w3, w3 = wr.alloc (.cells #[.int .i64 id, .slice pa row.length pc] 133) := ⟨_, rfl⟩
   have b3 : Below wr.heap.size wr w3 := by rw [hw3]; exact bAl _ _
   have r3 : w3.heap[wr.heap.size]? = some (.cells #[.int .i64 id, .slice pa row.length pc] 133 (0, 0)) := by rw [hw3]; exact heap_alloc_new wr _
   have hown : ∀ y, (Value.slice pa row.length pc).ownBlock = some y → w1.heap.size ≤ y := fun y hy => (hps.lt y hy).1
   have B3 := hid (HB.out.trans (b3.mono HB.out.size))
   have DL := hid (delete_any (HH.out.later B3.out) (hps.later b3) (HROW.out _ (List.mem_of_getElem? hx)) W.heap.size (At.seen b3 (Nat.le_refl _) y0) (fun y hy => ⟨by have := hown y hy; have := HZ1.out; omega, Classical.byContradiction fun q => by have := (HH.out.fin y q).2; have := hown y hy; omega⟩))
   have HX := hid hx
   have HEJ := hid hE
   have HPS := hid (hps.later b3)
   have E3 := hid (HE.out.later b3)
   have HOW := hid hown
   have HW3 := hid hw3
   have z0 : w3.cell? ⟨wr.heap.size, 0, none⟩ = some (.int .i64 id) := cell_blk r3 rfl
   have z1 : w3.cell? ⟨wr.heap.size, 1, none⟩ = some (.slice pa row.length pc) := cell_blk r3 rfl
   have C3 := hid (blk_seen b3 (Nat.le_refl _) hcur)
   clear hx hE hL hps b3 r3 hw3 hown hEl HE hcur
   go_upto_region 7 with fail
   rw [← HW3.out]
   go_wp2_with fail
   refine DL.out.mono ?_
   rintro e w4 ⟨da, dn, dc, rfl, hd, hs4, ho4⟩
   have hng : ¬ (Value.slice pa row.length pc).ownBlock = some g := fun q => by
    obtain ⟨c1, q1⟩ := So.own_blk HPS.out q
    rw [C3.out] at q1
    simp at q1
   have h4 := hs4.at C3.out hng
   have c4 : w4.cell? ⟨g, j * 2 + 1, none⟩ = some (.slice pa row.length pc) := by
    obtain ⟨g', e', -, q⟩ := (E3.out.row.kept hs4 (fun y hy q => hng (by
     have : g = y := by simpa [Value.ownBlock] using hy
     rw [this]; exact q))).at HEJ.out
    obtain rfl : g = g' := by simpa using e'
    exact q
   have f4 := blk_free h4 (j * 2 + 1)
   have PT := hid (E3.out.put HEJ.out (stM_at HX.out) HPS.out hs4 hd ho4)
   rw [stM_next HX.out] at PT
   have B4 : Hid (Below w1.heap.size w1 (w4.setCell ⟨g, j * 2 + 1, none⟩ (.slice da dn dc))) := hid (by
    have s4 := hs4.below (B := w1.heap.size) HOW.out B3.out.size
    have hgl : w1.heap.size ≤ g := (World.ownsRow.lt E3.out.row g rfl).1
    exact (B3.out.trans s4).setCell hgl _)
   clear hd hs4 ho4 hng h4 DL z0 z1 d0 d1 y0
   go_wp2_with fail
   go_roundg (a.L.length - (j + 1))
   case measure => omega
   case rel => exact ⟨j + 1, _, by omega, rfl, by go_num, PT.out, B4.out⟩
  ·have hji : ¬ ((j : Int) < (a.L.length : Int)) := by omega
   obtain rfl : j = a.L.length := by omega
   have hE := HE.out
   rw [stM_end] at hE
   have E5 := hid hE
   clear hE HE y0
   have P5 := hid (blk_seen HB.out (Nat.le_refl _) P1.out)
   have hwb : wb < W.heap.size := World.block_lt_of_cell? W _ H0.out.cells.1
   have hz := HZ1.out
   have hB1 : w1.heap.size ≤ wr.heap.size := HB.out.size
   have HSB : Hid (W.heap.size + 1 < wr.heap.size) := hid (by show _ < _; omega)
   have KK : Hid (∀ w, Below (W.heap.size + 1) wr w → w.cell? ⟨W.heap.size, 0, none⟩ = some (.pointer (some ⟨wb, 0, none⟩)) ∧ w.cell? ⟨wb, 7, none⟩ = some (.int .i64 a.fr) ∧ w.cell? ⟨wb, 4, none⟩ = some (.pointer (some ⟨k.x.bb, 0, none⟩)) ∧ w.cell? ⟨wb, 8, none⟩ = some (.int .i64 a.sd) ∧ w.cell? ⟨wb, 5, none⟩ = some (.pointer (some ⟨k.x.gb, 0, none⟩))) := hid fun w hb => by
    obtain ⟨q1, q2, q3, q4⟩ := (HH.out.later HB.out).cells
    have C : ∀ {b j : Nat} {v : Value}, b < W.heap.size + 1 → wr.cell? ⟨b, j, none⟩ = some v → w.cell? ⟨b, j, none⟩ = some v := fun {b j v} hl hc => (World.cell?_of_block (hb.block b hl)).trans hc
    exact ⟨C (by omega) (cell_blk (blk_seen HB.out (Nat.le_refl _) R1.out) rfl), C (by omega) q1, C (by omega) q2, C (by omega) q3, C (by omega) q4⟩
   have NX : Hid (∀ w, Below wr.heap.size wr w → Calls Tryz.prog 68 #[.pointer (some ⟨k.x.bb, 0, none⟩)] w fun e w' => e = .returned (.int .i64 a.n) ∧ w' = w) := hid fun w hb => wnext_any ((HH.out.later HB.out).later hb)
   have AL : Hid (∀ w, Below wr.heap.size wr w → Calls Tryz.prog 69 #[.pointer (some ⟨k.x.gb, 0, none⟩)] w fun e w' => ∃ ra rn rc, e = .returned (.slice ra rn rc) ∧ Below wr.heap.size wr w' ∧ (w'.cell? ⟨W.heap.size, 0, none⟩ = some (.pointer (some ⟨wb, 0, none⟩)) ∧ w'.cell? ⟨wb, 7, none⟩ = some (.int .i64 a.fr) ∧ w'.cell? ⟨wb, 4, none⟩ = some (.pointer (some ⟨k.x.bb, 0, none⟩)) ∧ w'.cell? ⟨wb, 8, none⟩ = some (.int .i64 a.sd) ∧ w'.cell? ⟨wb, 5, none⟩ = some (.pointer (some ⟨k.x.gb, 0, none⟩))) ∧
     w'.frozen? ⟨W.heap.size + 1, 0, none⟩ = false ∧ w'.frozen? ⟨W.heap.size + 1, 1, none⟩ = false ∧ w'.frozen? ⟨W.heap.size + 1, 2, none⟩ = false ∧ w'.frozen? ⟨W.heap.size + 1, 3, none⟩ = false ∧ w'.frozen? ⟨W.heap.size + 1, 4, none⟩ = false ∧ w'.cell? ⟨W.heap.size + 1, 0, none⟩ = some (.int .i64 0) ∧ w'.cell? ⟨W.heap.size + 1, 1, none⟩ = some (.int .i64 0) ∧ w'.cell? ⟨W.heap.size + 1, 2, none⟩ = some (.int .i64 0) ∧ w'.cell? ⟨W.heap.size + 1, 3, none⟩ = some (.slice none 0 0) ∧ w'.cell? ⟨W.heap.size + 1, 4, none⟩ = some (.slice none 0 0) ∧
     ((put5 w' (W.heap.size + 1) (.int .i64 a.fr) (.int .i64 a.n) (.int .i64 a.sd) (.slice ba a.L.length bc) (.slice ra rn rc)).cell? ⟨W.heap.size, 0, none⟩ = some (.pointer (some ⟨wb, 0, none⟩)) ∧ (put5 w' (W.heap.size + 1) (.int .i64 a.fr) (.int .i64 a.n) (.int .i64 a.sd) (.slice ba a.L.length bc) (.slice ra rn rc)).cell? ⟨wb, 7, none⟩ = some (.int .i64 a.fr) ∧ (put5 w' (W.heap.size + 1) (.int .i64 a.fr) (.int .i64 a.n) (.int .i64 a.sd) (.slice ba a.L.length bc) (.slice ra rn rc)).cell? ⟨wb, 4, none⟩ = some (.pointer (some ⟨k.x.bb, 0, none⟩)) ∧ (put5 w' (W.heap.size + 1) (.int .i64 a.fr) (.int .i64 a.n) (.int .i64 a.sd) (.slice ba a.L.length bc) (.slice ra rn rc)).cell? ⟨wb, 8, none⟩ = some (.int .i64 a.sd) ∧ (put5 w' (W.heap.size + 1) (.int .i64 a.fr) (.int .i64 a.n) (.int .i64 a.sd) (.slice ba a.L.length bc) (.slice ra rn rc)).cell? ⟨wb, 5, none⟩ = some (.pointer (some ⟨k.x.gb, 0, none⟩))) ∧
     (put5 w' (W.heap.size + 1) (.int .i64 a.fr) (.int .i64 a.n) (.int .i64 a.sd) (.slice ba a.L.length bc) (.slice ra rn rc)).cell? ⟨W.heap.size + 1, 0, none⟩ = some (.int .i64 a.fr) ∧ (put5 w' (W.heap.size + 1) (.int .i64 a.fr) (.int .i64 a.n) (.int .i64 a.sd) (.slice ba a.L.length bc) (.slice ra rn rc)).cell? ⟨W.heap.size + 1, 1, none⟩ = some (.int .i64 a.n) ∧ (put5 w' (W.heap.size + 1) (.int .i64 a.fr) (.int .i64 a.n) (.int .i64 a.sd) (.slice ba a.L.length bc) (.slice ra rn rc)).cell? ⟨W.heap.size + 1, 2, none⟩ = some (.int .i64 a.sd) ∧ (put5 w' (W.heap.size + 1) (.int .i64 a.fr) (.int .i64 a.n) (.int .i64 a.sd) (.slice ba a.L.length bc) (.slice ra rn rc)).cell? ⟨W.heap.size + 1, 3, none⟩ = some (.slice ba a.L.length bc) ∧ (put5 w' (W.heap.size + 1) (.int .i64 a.fr) (.int .i64 a.n) (.int .i64 a.sd) (.slice ba a.L.length bc) (.slice ra rn rc)).cell? ⟨W.heap.size + 1, 4, none⟩ = some (.slice ra rn rc) ∧
     Hid ((∃ E, Bes W.heap.size (put5 w' (W.heap.size + 1) (.int .i64 a.fr) (.int .i64 a.n) (.int .i64 a.sd) (.slice ba a.L.length bc) (.slice ra rn rc)) (.slice ba a.L.length bc) E (stL k.x.cs a.L)) ∧ NumO W.heap.size (put5 w' (W.heap.size + 1) (.int .i64 a.fr) (.int .i64 a.n) (.int .i64 a.sd) (.slice ba a.L.length bc) (.slice ra rn rc)) (.slice ra rn rc) a.gl ∧ Below W.heap.size W (put5 w' (W.heap.size + 1) (.int .i64 a.fr) (.int .i64 a.n) (.int .i64 a.sd) (.slice ba a.L.length bc) (.slice ra rn rc)))) := hid fun w hb => by
    refine (wall_any ((HH.out.later HB.out).later hb)).mono ?_
    rintro e w' ⟨ra, rn, rc, rfl, q1, q2⟩
    have q3 : Below wr.heap.size wr w' := hb.trans (q2.mono hb.size)
    have q4 := blk_seen q3 (Nat.le_refl _) P5.out
    have st5 := put5_st w' (W.heap.size + 1) (.int .i64 a.fr) (.int .i64 a.n) (.int .i64 a.sd) (.slice ba a.L.length bc) (.slice ra rn rc)
    have bl5 := put5_blk q4 (.int .i64 a.fr) (.int .i64 a.n) (.int .i64 a.sd) (.slice ba a.L.length bc) (.slice ra rn rc)
    have q5 : Below (W.heap.size + 1) wr w' := q3.mono (by have := HSB.out; omega)
    have q6 := q5.trans (st5.below (B := W.heap.size + 1) (fun y e => by omega) (by have := q5.size; have := HSB.out; omega))
    have q7 : Below w1.heap.size w1 w' := HB.out.trans (q3.mono HB.out.size)
    refine ⟨ra, rn, rc, rfl, q3, KK.out _ q5, blk_free q4 0, blk_free q4 1, blk_free q4 2, blk_free q4 3, blk_free q4 4, cell_blk q4 rfl, cell_blk q4 rfl, cell_blk q4 rfl, cell_blk q4 rfl, cell_blk q4 rfl, KK.out _ q6, cell_blk bl5 rfl, cell_blk bl5 rfl, cell_blk bl5 rfl, cell_blk bl5 rfl, cell_blk bl5 rfl, ?_, ?_, ?_⟩
    ·have e5 := E5.out.later q3
     refine ⟨E, ⟨e5.row.kept st5 (fun y hy q => by have := (World.ownsRow.lt e5.row y hy).1; omega), e5.len, fun i id pv hi => by obtain ⟨ps, g1, g2⟩ := e5.at' i id pv hi; exact ⟨ps, g1, So.own_kept g2 st5 fun y hy q => by have := (g2.lt y hy).1; omega⟩, e5.apart⟩ |> fun z => Bes.lower z (by omega)⟩
    ·have ho : NumO w.heap.size (put5 w' (W.heap.size + 1) (.int .i64 a.fr) (.int .i64 a.n) (.int .i64 a.sd) (.slice ba a.L.length bc) (.slice ra rn rc)) (.slice ra rn rc) a.gl := So.own_kept q1 st5 fun y hy q => by
      have := (World.ownsRow.lt q1 y hy).1
      have := hb.size
      have := HSB.out
      omega
     exact ho.lower (by have := hb.size; omega)
    ·exact B1.out.trans ((q7.mono B1.out.size).trans (st5.below (B := W.heap.size) (fun y e => by omega) (by have := q7.size; omega)))
   have hmm : W.heap.size + 1 ≤ wr.heap.size := by have := HSB.out; omega
   obtain ⟨s0, s1, s2, s3, s4⟩ := KK.out wr ((Below.refl wr.heap.size wr).mono hmm)
   have k0 : Below wr.heap.size wr wr := Below.refl _ _
   have k0d := k0.drew
   have sS := KK.out wr.drew (k0d.mono hmm)
   go_upto_region 9 with fail
   go_region_held3 (fun w => w.cell? ⟨W.heap.size, 0, none⟩ = some (.pointer (some ⟨wb, 0, none⟩)) ∧ w.cell? ⟨wb, 7, none⟩ = some (.int .i64 a.fr) ∧ w.cell? ⟨wb, 4, none⟩ = some (.pointer (some ⟨k.x.bb, 0, none⟩)) ∧ w.cell? ⟨wb, 8, none⟩ = some (.int .i64 a.sd) ∧ w.cell? ⟨wb, 5, none⟩ = some (.pointer (some ⟨k.x.gb, 0, none⟩)))
    (first | (with_reducible assumption) | fail)
    (first
     | (go_at_call 68; refine (NX.out _ (by with_reducible assumption)).mono ?_; rintro e v1 ⟨rfl, rfl⟩)
     | (go_at_call 69; refine (AL.out _ (by with_reducible assumption)).mono ?_; rintro e v2 ⟨ra, rn, rc, rfl, bb2, hS2, f0, f1, f2, f3, f4, y0, y1, y2, y3, y4, hS5, z0, z1, z2, z3, z4, HFIN⟩)
     | fail)
   all_goals
    clear KK NX AL
    go_wp2_with fail
    obtain ⟨g1, g2, g3⟩ := HFIN.out
    exact bodyPost_ret (v := .agg #[.int .i64 a.fr, .int .i64 a.n, .int .i64 a.sd, .slice ba a.L.length bc, .slice ra rn rc]) (by simp [results, Tryz.results30, go_sem, z0, z1, z2, z3, z4]) rfl ⟨_, _, _, _, _, _, rfl, g1, g2, g3⟩
end
end Wo
namespace Wo
open Go.RowKit Go.Shelf Go.Maps
open Rs (Prt PRow)
set_option maxHeartbeats 1600000 in
set_option maxRecDepth 100000 in
theorem equal_parts (W : World) (v u : Value) (l : List Prt) (h : PRow W v l) (h' : PRow W u l) (hl : l.length ≤ 1000) :
  Calls Tryz.prog 115 #[v, u] W fun e W' => e = .returned (.bool true) ∧ Below W.heap.size W W' := by
 have H := hid h
 have H' := hid h'
 obtain ⟨a, c, rfl, -⟩ := h
 obtain ⟨a', c', rfl, -⟩ := h'
 have hli : (l.length : Int) ≤ 1000 := by omega
 have nq := Co.neqP
 go_enter Tryz.func115, Tryz.ntmps115
 go_wp2_with fail
 go_loopg [5, 13] l.length (fun gh _ i wr => ∃ k : Nat, k ≤ l.length ∧ gh = l.length - k ∧ i = .int .i64 (k : Int) ∧ Hid (Below W.heap.size W wr))
 case atStart => exact ⟨0, Nat.zero_le _, rfl, rfl, Below.refl _ _⟩
 case round =>
  rename World => wr
  obtain ⟨k, hk, rfl, rfl, HB⟩ := hrel
  by_cases hlt : k < l.length
  ·have hki : (k : Int) < (l.length : Int) := by omega
   obtain ⟨p, hp⟩ := at_lt l k hlt
   obtain ⟨b, o, rfl, six⟩ := (H.out.later HB.out).at hp
   obtain ⟨b', o', rfl, six'⟩ := (H'.out.later HB.out).at hp
   obtain ⟨d0, d1, d2, d3, d4, d5⟩ := six
   obtain ⟨f0, f1, f2, f3, f4, f5⟩ := six'
   clear hp
   go_wp2_with fail
   go_quiet (fail)
   go_wp2_with fail
   go_roundg (l.length - (k + 1))
   case measure => omega
   case rel => exact ⟨k + 1, by omega, rfl, by go_num, HB.out.trans ((At.drewN_below _ _).mono HB.out.size)⟩
  ·have hki : ¬ ((k : Int) < (l.length : Int)) := by omega
   go_wp2_with fail
   go_ret
   exact ⟨rfl, HB.out⟩
set_option maxHeartbeats 1600000 in
set_option maxRecDepth 100000 in
theorem equal_ints (W : World) (v u : Value) (l : List Int) (h : NumR W v l) (h' : NumR W u l) (hl : l.length ≤ 1000) :
  Calls Tryz.prog 73 #[v, u] W fun e W' => e = .returned (.bool true) ∧ Below W.heap.size W W' := by
 have H := hid h
 have H' := hid h'
 obtain ⟨a, c, rfl, -⟩ := h
 obtain ⟨a', c', rfl, -⟩ := h'
 have hli : (l.length : Int) ≤ 1000 := by omega
 go_enter Tryz.func73, Tryz.ntmps73
 go_wp2_with fail
 go_loopg [5, 13] l.length (fun gh _ i wr => ∃ k : Nat, k ≤ l.length ∧ gh = l.length - k ∧ i = .int .i64 (k : Int) ∧ Hid (Below W.heap.size W wr))
 case atStart => exact ⟨0, Nat.zero_le _, rfl, rfl, Below.refl _ _⟩
 case round =>
  rename World => wr
  obtain ⟨k, hk, rfl, rfl, HB⟩ := hrel
  by_cases hlt : k < l.length
  ·have hki : (k : Int) < (l.length : Int) := by omega
   obtain ⟨x, hx⟩ := at_lt l k hlt
   obtain ⟨g, rfl, d0⟩ : ∃ g, a = some ⟨g, 0, none⟩ ∧ wr.cell? ⟨g, k, none⟩ = some (.int .i64 x) := by
    obtain ⟨a2, c2, hv, hr⟩ := H.out.later HB.out
    obtain ⟨rfl, rfl⟩ : a = a2 ∧ c = c2 := by simpa using hv
    exact hr k x hx
   obtain ⟨g', rfl, d1⟩ : ∃ g, a' = some ⟨g, 0, none⟩ ∧ wr.cell? ⟨g, k, none⟩ = some (.int .i64 x) := by
    obtain ⟨a2, c2, hv, hr⟩ := H'.out.later HB.out
    obtain ⟨rfl, rfl⟩ : a' = a2 ∧ c' = c2 := by simpa using hv
    exact hr k x hx
   clear hx
   go_wp2_with fail
   go_quiet (fail)
   go_wp2_with fail
   go_roundg (l.length - (k + 1))
   case measure => omega
   case rel => exact ⟨k + 1, by omega, rfl, by go_num, HB.out.trans ((At.drewN_below _ _).mono HB.out.size)⟩
  ·have hki : ¬ (k : Int) < (l.length : Int) := by omega
   go_wp2_with fail
   go_ret
   exact ⟨rfl, HB.out⟩
end Wo
namespace Wo
open Go.RowKit Go.Shelf Go.Maps
open At (bAl cell_blk blk_seen)
open Rs (Prt PRow)
set_option maxHeartbeats 1600000 in
theorem same_be (W : World) (id : Int) (v u : Value) (l : List Prt) (h : PRow W v l) (h' : PRow W u l) (hl : l.length ≤ 1000) :
  Calls Tryz.prog 72 #[.agg #[.int .i64 id, v], .agg #[.int .i64 id, u]] W fun e W' => e = .returned (.bool true) ∧ Below W.heap.size W W' := by
 obtain ⟨b2, r2, p2⟩ := Rs.two_blk W #[.int .i64 id, v] #[.int .i64 id, u] 133 133
 obtain ⟨a, c, rfl, -⟩ := show PRow W v l from h
 obtain ⟨a', c', rfl, -⟩ := show PRow W u l from h'
 obtain ⟨w2, hw2⟩ : ∃ w2, w2 = (W.alloc (.cells #[.int .i64 id, .slice a l.length c] 133)).alloc (.cells #[.int .i64 id, .slice a' l.length c'] 133) := ⟨_, rfl⟩
 rw [← hw2] at b2 r2 p2
 have EQ := hid (equal_parts w2 _ _ l (h.later b2) (h'.later b2) hl)
 have y0 : w2.cell? ⟨W.heap.size, 0, none⟩ = some (.int .i64 id) := cell_blk r2 rfl
 have y1 : w2.cell? ⟨W.heap.size, 1, none⟩ = some (.slice a l.length c) := cell_blk r2 rfl
 have z0 : w2.cell? ⟨W.heap.size + 1, 0, none⟩ = some (.int .i64 id) := cell_blk p2 rfl
 have z1 : w2.cell? ⟨W.heap.size + 1, 1, none⟩ = some (.slice a' l.length c') := cell_blk p2 rfl
 have HW2 := hid hw2
 have B2 := hid b2
 clear h h' hw2 b2 r2 p2
 go_enter Tryz.func72, Tryz.ntmps72
 go_upto_region 1 with fail
 rw [← HW2.out]
 go_wp2_with fail
 refine EQ.out.mono ?_
 rintro e w3 ⟨rfl, hb⟩
 have B3 := hid (B2.out.trans (hb.mono B2.out.size))
 clear hb EQ
 go_wp2_with fail
 go_ret
 exact ⟨rfl, B3.out⟩
set_option maxHeartbeats 3200000 in
set_option maxRecDepth 100000 in
theorem equal_bes (W : World) (N N' : Nat) (v u : Value) (E E' : List (Int × Value)) (L : Bgs) (h : Bes N W v E L) (h' : Bes N' W u E' L) (hl : L.length ≤ 1000) (hr : ∀ x ∈ L, x.2.length ≤ 1000) :
  Calls Tryz.prog 71 #[v, u, .func (.func 72) #[] #[]] W fun e W' => e = .returned (.bool true) ∧ Below W.heap.size W W' := by
 have H := hid h
 have H' := hid h'
 obtain ⟨a, c, rfl⟩ := h.slice
 obtain ⟨a', c', rfl⟩ := h'.slice
 have hli : (L.length : Int) ≤ 1000 := by omega
 have HR := hid hr
 have hE1 : Hid (E.length = L.length) := h.len
 have hE2 : Hid (E'.length = L.length) := h'.len
 clear h h' hr
 go_enter Tryz.func71, Tryz.ntmps71
 go_wp2_with fail
 go_loopg [7, 8, 9, 17] L.length (fun gh _ _ _ i wr => ∃ k : Nat, k ≤ L.length ∧ gh = L.length - k ∧ i = .int .i64 (k : Int) ∧ Hid (Below W.heap.size W wr))
 case atStart => exact ⟨0, Nat.zero_le _, rfl, rfl, Below.refl _ _⟩
 case round =>
  rename World => wr
  obtain ⟨k, hk, rfl, rfl, HB⟩ := hrel
  by_cases hlt : k < L.length
  ·have hki : (k : Int) < (L.length : Int) := by omega
   obtain ⟨⟨id1, p1⟩, e1⟩ := at_lt E k (by have := hE1.out; omega)
   obtain ⟨⟨id2, p2⟩, e2⟩ := at_lt E' k (by have := hE2.out; omega)
   have K := H.out.later HB.out
   have K' := H'.out.later HB.out
   obtain ⟨ps, q1, q2⟩ := K.at' k id1 p1 e1
   obtain ⟨ps', q1', q2'⟩ := K'.at' k id2 p2 e2
   obtain ⟨rfl, rfl⟩ : id1 = id2 ∧ ps = ps' := by rw [q1] at q1'; simpa using q1'
   obtain ⟨g, rfl, d0, d1⟩ := K.row.at e1
   obtain ⟨g', rfl, d0', d1'⟩ := K'.row.at e2
   obtain ⟨xa, xc, rfl⟩ := q2.slice
   obtain ⟨xa', xc', rfl⟩ := q2'.slice
   have hrow := HR.out _ (List.mem_of_getElem? q1)
   obtain ⟨b2, r2, p2⟩ := Rs.two_blk wr #[.int .i64 id1, .slice xa ps.length xc] #[.int .i64 id1, .slice xa' ps.length xc'] 133 133
   obtain ⟨w2, hw2⟩ : ∃ w2, w2 = (wr.alloc (.cells #[.int .i64 id1, .slice xa ps.length xc] 133)).alloc (.cells #[.int .i64 id1, .slice xa' ps.length xc'] 133) := ⟨_, rfl⟩
   rw [← hw2] at b2 r2 p2
   have b1 := bAl wr (.cells #[.int .i64 id1, .slice xa ps.length xc] 133)
   have SB := hid (same_be w2 id1 _ _ ps (q2.row.later b2) (q2'.row.later b2) hrow)
   have t0 : (wr.alloc (.cells #[.int .i64 id1, .slice xa ps.length xc] 133)).cell? ⟨g', k * 2, none⟩ = some (.int .i64 id1) := At.seen b1 (Nat.le_refl _) d0'
   have t1 : (wr.alloc (.cells #[.int .i64 id1, .slice xa ps.length xc] 133)).cell? ⟨g', k * 2 + 1, none⟩ = some (.slice xa' ps.length xc') := At.seen b1 (Nat.le_refl _) d1'
   have y0 : w2.cell? ⟨wr.heap.size, 0, none⟩ = some (.int .i64 id1) := cell_blk r2 rfl
   have y1 : w2.cell? ⟨wr.heap.size, 1, none⟩ = some (.slice xa ps.length xc) := cell_blk r2 rfl
   have z0 : w2.cell? ⟨wr.heap.size + 1, 0, none⟩ = some (.int .i64 id1) := cell_blk p2 rfl
   have z1 : w2.cell? ⟨wr.heap.size + 1, 1, none⟩ = some (.slice xa' ps.length xc') := cell_blk p2 rfl
   have HW2 := hid hw2
   have B2 := hid (HB.out.trans (b2.mono HB.out.size))
   clear e1 e2 K K' q1 q1' q2 q2' hrow hw2 b2 r2 p2 b1
   go_upto_region 7 with fail
   rw [← HW2.out]
   go_wp2_with fail
   refine SB.out.mono ?_
   rintro e w3 ⟨rfl, hb⟩
   have B3 := hid (B2.out.trans (hb.mono B2.out.size))
   clear hb SB
   go_wp2_with fail
   go_roundg (L.length - (k + 1))
   case measure => omega
   case rel => exact ⟨k + 1, by omega, rfl, by go_num, B3.out⟩
  ·have hki : ¬ ((k : Int) < (L.length : Int)) := by omega
   go_wp2_with fail
   go_ret
   exact ⟨rfl, HB.out⟩
set_option maxHeartbeats 3200000 in
set_option maxRecDepth 100000 in
theorem same_any (W : World) (N N' : Nat) (fr n sd : Int) (ba ba' ra ra' : Option Addr) (bn bc bn' bc' rn rc rn' rc' : Nat) (E E' : List (Int × Value)) (L : Bgs) (xs : List Int) (h : Bes N W (.slice ba bn bc) E L) (h' : Bes N' W (.slice ba' bn' bc') E' L) (hl : L.length ≤ 1000) (hr : ∀ x ∈ L, x.2.length ≤ 1000) (hx : NumR W (.slice ra rn rc) xs) (hx' : NumR W (.slice ra' rn' rc') xs) (hxl : xs.length ≤ 1000) :
  Calls Tryz.prog 33 #[.agg #[.int .i64 fr, .int .i64 n, .int .i64 sd, .slice ba bn bc, .slice ra rn rc], .agg #[.int .i64 fr, .int .i64 n, .int .i64 sd, .slice ba' bn' bc', .slice ra' rn' rc']] W fun e W' => e = .returned (.bool true) ∧ Below W.heap.size W W' := by
 obtain ⟨b2, r2, p2⟩ := Rs.two_blk W #[.int .i64 fr, .int .i64 n, .int .i64 sd, .slice ba bn bc, .slice ra rn rc] #[.int .i64 fr, .int .i64 n, .int .i64 sd, .slice ba' bn' bc', .slice ra' rn' rc'] 76 76
 obtain ⟨w2, hw2⟩ : ∃ w2, w2 = (W.alloc (.cells #[.int .i64 fr, .int .i64 n, .int .i64 sd, .slice ba bn bc, .slice ra rn rc] 76)).alloc (.cells #[.int .i64 fr, .int .i64 n, .int .i64 sd, .slice ba' bn' bc', .slice ra' rn' rc'] 76) := ⟨_, rfl⟩
 rw [← hw2] at b2 r2 p2
 have EB := hid (equal_bes w2 N N' _ _ E E' L (h.later b2) (h'.later b2) hl hr)
 have EI : Hid (∀ w, Below w2.heap.size w2 w → Calls Tryz.prog 73 #[.slice ra rn rc, .slice ra' rn' rc'] w fun e W' => e = .returned (.bool true) ∧ Below w.heap.size w W') := hid fun w hb => equal_ints w _ _ xs (hx.later (b2.trans (hb.mono b2.size))) (hx'.later (b2.trans (hb.mono b2.size))) hxl
 have y0 : w2.cell? ⟨W.heap.size, 0, none⟩ = some (.int .i64 fr) := cell_blk r2 rfl
 have y1 : w2.cell? ⟨W.heap.size, 1, none⟩ = some (.int .i64 n) := cell_blk r2 rfl
 have y2 : w2.cell? ⟨W.heap.size, 2, none⟩ = some (.int .i64 sd) := cell_blk r2 rfl
 have y3 : w2.cell? ⟨W.heap.size, 3, none⟩ = some (.slice ba bn bc) := cell_blk r2 rfl
 have z0 : w2.cell? ⟨W.heap.size + 1, 0, none⟩ = some (.int .i64 fr) := cell_blk p2 rfl
 have z1 : w2.cell? ⟨W.heap.size + 1, 1, none⟩ = some (.int .i64 n) := cell_blk p2 rfl
 have z2 : w2.cell? ⟨W.heap.size + 1, 2, none⟩ = some (.int .i64 sd) := cell_blk p2 rfl
 have z3 : w2.cell? ⟨W.heap.size + 1, 3, none⟩ = some (.slice ba' bn' bc') := cell_blk p2 rfl
 have HW2 := hid hw2
 have B2 := hid b2
 have R2 := hid r2
 have P2 := hid p2
 clear h h' hr hx hx' hw2 b2 r2 p2
 go_enter Tryz.func33, Tryz.ntmps33
 go_upto_region 1 with fail
 rw [← HW2.out]
 go_wp2_with fail
 refine EB.out.mono ?_
 rintro e w3 ⟨rfl, hb⟩
 have B3 := hid (B2.out.trans (hb.mono B2.out.size))
 have y4 : w3.cell? ⟨W.heap.size, 4, none⟩ = some (.slice ra rn rc) := cell_blk (blk_seen hb (Nat.le_refl _) R2.out) rfl
 have z4 : w3.cell? ⟨W.heap.size + 1, 4, none⟩ = some (.slice ra' rn' rc') := cell_blk (blk_seen hb (Nat.le_refl _) P2.out) rfl
 have E3 := hid (EI.out w3 hb)
 clear hb EB EI y0 y1 y2 y3 z0 z1 z2 z3
 go_wp2_with fail
 refine E3.out.mono ?_
 rintro e w4 ⟨rfl, hb⟩
 have B4 := hid (B3.out.trans (hb.mono B3.out.size))
 clear hb E3
 go_wp2_with fail
 go_ret
 exact ⟨rfl, B4.out⟩
end Wo
namespace Or
open Go.RowKit Go.Shelf Go.Maps
open At (blk_seen)
open Sc (Cmp)
open Wo (Ev WK AP Wa)
set_option maxRecDepth 100000
theorem eqI1 (d : Nat) (x : Int) (w : World) : (Op.equalIn (d + 1) 3 (.int .i64 x) (.int .i64 x)).run Tryz.prog w = .ok true w := by
 rw [run_equalIn_int w d 3 .i64 .i64 x x Tryz.underlying3]
 simp
theorem eqRep (d f : Int) (w : World) : (Op.equalIn 10000 55 (.agg #[.int .i64 d, .int .i64 f]) (.agg #[.int .i64 d, .int .i64 f])).run Tryz.prog w = .ok true w := by
 have hS : Tryz.prog.underlying 55 = some (.struct (Tryz.prog.fieldsOf 55)) := by kernel_rfl
 have hp : Tryz.prog.stoodInHeld 55 = false := by kernel_rfl
 have h := run_equalIn_agg (P := Tryz.prog) w 9999 55 #[.int .i64 d, .int .i64 f] #[.int .i64 d, .int .i64 f] hS hp
 have u3 := Tryz.underlying3
 have a3 := Tryz.isAgg3
 have z3 := Tryz.sizeOf3
 simp only [Program.fieldsOf, Tryz.underlying55] at h
 rw [show (10000 : Nat) = 9999 + 1 from rfl, h]
 clear h hS hp
 go_simp
theorem eqlR (d f : Int) (w : World) : (binOp .eql 55 (.agg #[.int .i64 d, .int .i64 f]) (.agg #[.int .i64 d, .int .i64 f])).run Tryz.prog w = .ok (.bool true) w := by
 simp only [binOp]
 simp [Op.equal, Op.maxDepth, eqRep]
theorem doA_k {k k' : WK} (h1 : k.x.cs = k'.x.cs) (h2 : k.ws = k'.ws) (h3 : k.most = k'.most) (a : AP) (y : Od) : doA k a y = doA k' a y := by
 obtain ⟨⟨sb, bb, gb, kv, cs, ns⟩, ws, most⟩ := k
 obtain ⟨⟨sb', bb', gb', kv', cs', ns'⟩, ws', most'⟩ := k'
 simp only at h1 h2 h3
 subst h1 h2 h3
 rfl
theorem runA_k {k k' : WK} (h1 : k.x.cs = k'.x.cs) (h2 : k.ws = k'.ws) (h3 : k.most = k'.most) (a : AP) (L : List Od) : runA k a L = runA k' a L := by
 unfold runA
 congr 1
 funext s y
 unfold stA
 rw [doA_k h1 h2 h3]
theorem fold_from (k : WK) : ∀ (L : List Od) (d f : Nat) (a : AP), L.foldl (stA k) ⟨d, f, a⟩ = ⟨d + (L.foldl (stA k) ⟨0, 0, a⟩).d, f + (L.foldl (stA k) ⟨0, 0, a⟩).f, (L.foldl (stA k) ⟨0, 0, a⟩).a⟩
 | [], d, f, a => rfl
 | y :: L, d, f, a => by
  rw [List.foldl_cons, List.foldl_cons]
  have e : ∀ d f, stA k ⟨d, f, a⟩ y = if (doA k a y).1 = 0 then ⟨d + 1, f, (doA k a y).2⟩ else ⟨d, f + 1, (doA k a y).2⟩ := fun d f => rfl
  rw [e, e]
  split
  ·rw [fold_from k L (d + 1), fold_from k L (0 + 1)]
   simp only [RA.mk.injEq, and_true]
   omega
  ·rw [fold_from k L d (f + 1), fold_from k L 0 (0 + 1)]
   simp only [RA.mk.injEq, and_true]
   omega
theorem runA_app (k : WK) (a : AP) (L M : List Od) : runA k a (L ++ M) = ⟨(runA k a L).d + (runA k (runA k a L).a M).d, (runA k a L).f + (runA k (runA k a L).a M).f, (runA k (runA k a L).a M).a⟩ := by
 unfold runA
 rw [List.foldl_append]
 exact fold_from k M _ _ _
theorem rows_few {B : Nat} {G : Wo.Own} {W : World} {wb : Nat} {k : WK} {t : Nat} {a : AP} (h : Wa B G W wb k t a) : ∀ x ∈ a.L, x.2.length ≤ 16 := fun x hx => by
 obtain ⟨j, hj⟩ := List.getElem?_of_mem hx
 obtain ⟨p, i, g, s⟩ := h.stands (h.who (id := x.1) (row := x.2) hj).1
 obtain ⟨c, q1, q2, q3⟩ := s.d.z.st
 obtain ⟨n, j, m, own, y, A⟩ := q1.stands s.al (by simp)
 have := Rs.okL_few A.ok.1 q1.okw.1
 rw [s.at'] at this
 exact this
theorem stL_few {cs : List Cmp} {L : Wo.Bgs} {n : Nat} (h : ∀ x ∈ L, x.2.length ≤ n) : ∀ x ∈ Wo.stL cs L, x.2.length ≤ n := fun x hx => by
 unfold Wo.stL at hx
 obtain ⟨y, hy, rfl⟩ := List.mem_map.1 hx
 exact Nat.le_trans (List.length_filter_le ..) (h y hy)
structure TQ (B B2 : Nat) (W : World) (wa wb oa ob : Nat) (kva kvb : Value) (k k' : WK) (sb : Nat) (La Lb : List Od) (a1 a2 : AP) (gb : Int) (d f n : Nat) (wr : World) : Prop where
 ex : ∃ Ga Ho ova Gb Hp ovb ta tb, Pr B Ga Ho wr wa oa kva ova k ta a1 ⟨small3, 64, La, gb, 0⟩ ∧ Pr B2 Gb Hp wr wb ob kvb ovb k' tb a2 ⟨small3, 64, Lb, gb, 0⟩ ∧ ta ≤ n ∧ tb ≤ n ∧ (∀ j, (Ga j ≠ 0 ∨ Ho j ≠ 0) → Gb j = 0 ∧ Hp j = 0) ∧ (Ga sb = 0 ∧ Ho sb = 0 ∧ Gb sb = 0 ∧ Hp sb = 0)
 sum : wr.heap[sb]? = some (.cells #[.int .i64 (d : Int), .int .i64 (f : Int)] 55 (0, 0))
 sbl : W.heap.size ≤ sb
 low : W.heap.size ≤ B ∧ W.heap.size ≤ B2
 bel : Below W.heap.size W wr
section
variable {B B2 : Nat} {W w w' : World} {wa wb oa ob : Nat} {kva kvb : Value} {k k' : WK} {sb : Nat} {La Lb : List Od} {a1 a2 : AP} {ga gb : Int} {d f n : Nat} {Ad : Nat → Addr}
theorem TQ.later (h : TQ B B2 W wa wb oa ob kva kvb k k' sb La Lb a1 a2 gb d f n w) (hb : Below w.heap.size w w') : TQ B B2 W wa wb oa ob kva kvb k k' sb La Lb a1 a2 gb d f n w' := by
 obtain ⟨⟨Ga, Ho, ova, Gb, Hp, ovb, ta, tb, h1, h2, h3, h4, h5, h6⟩, h7, h8, h9, h10⟩ := h
 exact ⟨⟨Ga, Ho, ova, Gb, Hp, ovb, ta, tb, h1.later hb, h2.later hb, h3, h4, h5, h6⟩, blk_seen hb (Nat.le_refl _) h7, h8, h9, h10.trans (hb.mono h10.size)⟩
theorem TQ.more {n' : Nat} (h : TQ B B2 W wa wb oa ob kva kvb k k' sb La Lb a1 a2 gb d f n w) (hn : n ≤ n') : TQ B B2 W wa wb oa ob kva kvb k k' sb La Lb a1 a2 gb d f n' w := by
 obtain ⟨⟨Ga, Ho, ova, Gb, Hp, ovb, ta, tb, h1, h2, h3, h4, h5, h6⟩, h7, h8, h9, h10⟩ := h
 exact ⟨⟨Ga, Ho, ova, Gb, Hp, ovb, ta, tb, h1, h2, by omega, by omega, h5, h6⟩, h7, h8, h9, h10⟩
theorem bes_dis {Ga Ho G2 H2 Gb Hp : Wo.Own} (hs : Bs Ga Ho G2 H2 w w') (hf1 : ∀ j, (Gb j ≠ 0 ∨ Hp j ≠ 0) → j < w.heap.size) (hd : ∀ j, (Ga j ≠ 0 ∨ Ho j ≠ 0) → Gb j = 0 ∧ Hp j = 0) : ∀ j, (G2 j ≠ 0 ∨ H2 j ≠ 0) → Gb j = 0 ∧ Hp j = 0 := fun j hj => by
 by_cases e : j < w.heap.size
 ·rw [hs.og j e, hs.oh j e] at hj
  exact hd j hj
 ·exact ⟨Classical.byContradiction fun q => e (hf1 j (.inl q)), Classical.byContradiction fun q => e (hf1 j (.inr q))⟩
theorem dis_flip {Ga Ho Gb Hp : Wo.Own} (hd : ∀ j, (Ga j ≠ 0 ∨ Ho j ≠ 0) → Gb j = 0 ∧ Hp j = 0) : ∀ j, (Gb j ≠ 0 ∨ Hp j ≠ 0) → Ga j = 0 ∧ Ho j = 0 := fun j hj =>
 ⟨Classical.byContradiction fun q => by have := hd j (.inl q); omega, Classical.byContradiction fun q => by have := hd j (.inr q); omega⟩
theorem pr_lt {B : Nat} {G H : Wo.Own} {W : World} {wb ob : Nat} {kv ov : Value} {k : WK} {t : Nat} {a : AP} {x : OP} (h : Pr B G H W wb ob kv ov k t a x) : ∀ j, (G j ≠ 0 ∨ H j ≠ 0) → j < W.heap.size := fun j hj => by
 rcases hj with q | q
 ·exact (h.wa.fin j q).2
 ·exact (h.oz.fin j q).2
theorem tq_one {Ga Ho G2 H2 Gb Hp : Wo.Own} {ovb : Value} {tb : Nat} {y : OP} (h2 : Pr B Gb Hp w wb ob kvb ovb k' tb a2 y) (hd : ∀ j, (Ga j ≠ 0 ∨ Ho j ≠ 0) → Gb j = 0 ∧ Hp j = 0) (h0 : Ga sb = 0 ∧ Ho sb = 0 ∧ Gb sb = 0 ∧ Hp sb = 0) {c : Array Value} {e : TypeId} (hs : w.heap[sb]? = some (.cells c e (0, 0)))
  (s : Bs Ga Ho G2 H2 w w') : Pr B Gb Hp w' wb ob kvb ovb k' tb a2 y ∧ (∀ j, (G2 j ≠ 0 ∨ H2 j ≠ 0) → Gb j = 0 ∧ Hp j = 0) ∧ (G2 sb = 0 ∧ H2 sb = 0 ∧ Gb sb = 0 ∧ Hp sb = 0) ∧ w'.heap[sb]? = some (.cells c e (0, 0)) := by
 have hsl := (Array.getElem?_eq_some_iff.1 hs).1
 exact ⟨h2.beside s.st (fun j hj q => hj (hd j q).1) (fun j hj q => hj (hd j q).2), bes_dis s (pr_lt h2) hd, ⟨by rw [s.og sb hsl]; exact h0.1, by rw [s.oh sb hsl]; exact h0.2.1, h0.2.2⟩, s.st.at hs fun q => by rcases q with q | q; exact q h0.1; exact q h0.2.1⟩
def taken (y : Od) : List Od := if y.can 3 then [y] else []
theorem tq_add (h : TQ B B2 W wa wb oa ob kva kvb k k' sb La Lb a1 a2 gb d f n w) (hg : 0 ≤ gb ∧ gb < 64) (hl : La.length ≤ 64) (hE : Env8 W Ad) (y : Od) (hy : y.ok) :
  Calls Tryz.prog 15 #[.pointer (some ⟨oa, 0, none⟩), .agg #[.int .i64 y.k, .int .i64 y.id, .int .u32 (y.m : Int), .int .i64 y.c]] w (fun e w' => ∃ v, e = .returned v ∧ w'.heap[sb]? = w.heap[sb]? ∧ Below W.heap.size W w' ∧ 
   ∃ Ga Ho ova Gb Hp ovb ta tb, Pr B Ga Ho w' wa oa kva ova k ta a1 ⟨small3, 64, La ++ taken y, gb + ((taken y).length : Int), 0⟩ ∧ Pr B2 Gb Hp w' wb ob kvb ovb k' tb a2 ⟨small3, 64, Lb, gb, 0⟩ ∧ ta ≤ n ∧ tb ≤ n ∧ (∀ j, (Ga j ≠ 0 ∨ Ho j ≠ 0) → Gb j = 0 ∧ Hp j = 0) ∧ (Ga sb = 0 ∧ Ho sb = 0 ∧ Gb sb = 0 ∧ Hp sb = 0)) := by
 obtain ⟨⟨Ga, Ho, ova, Gb, Hp, ovb, ta, tb, h1, h2, h3, h4, h5, h6⟩, h7, h8, h9, h10⟩ := h
 have hEv : Ev B w Ad := ⟨W, hE, h9.1, h10⟩
 unfold taken
 cases hc : y.can 3 with
 | false =>
  refine (add_arg h1.oz hEv.env y hy hc).mono ?_
  rintro e w' ⟨v, rfl, -, k2⟩
  refine ⟨v, rfl, (blk_seen k2 (Nat.le_refl _) h7).trans h7.symm, h10.trans (k2.mono h10.size), Ga, Ho, ova, Gb, Hp, ovb, ta, tb, ?_, h2.later k2, h3, h4, h5, h6⟩
  have := h1.later k2
  simpa using this
 | true =>
  refine (add_ok h1.oz hEv y hy hc (by show gb ≠ 64; omega) (by show La.length < 900; omega)).mono ?_
  rintro e w' ⟨rfl, H', ov', ho, hu⟩
  obtain ⟨p, s2⟩ := h1.turn hu ho rfl
  obtain ⟨q1, q2, q3, q4⟩ := tq_one h2 h5 h6 h7 s2
  refine ⟨_, rfl, q4.trans h7.symm, h10.trans ((s2.bel h1).mono h9.1), Ga, H', ov', Gb, Hp, ovb, ta, tb, ?_, q1, h3, h4, q2, q3⟩
  simpa using p
theorem tq_add2 {y : Od} {Ga Ho Gb Hp : Wo.Own} {ova ovb : Value} {ta tb : Nat} (h1 : Pr B Ga Ho w wa oa kva ova k ta a1 ⟨small3, 64, La, gb + ((taken y).length : Int), 0⟩) (h2 : Pr B2 Gb Hp w wb ob kvb ovb k' tb a2 ⟨small3, 64, [], gb, 0⟩) (h3 : ta ≤ n) (h4 : tb ≤ n) (h5 : ∀ j, (Ga j ≠ 0 ∨ Ho j ≠ 0) → Gb j = 0 ∧ Hp j = 0) (h6 : Ga sb = 0 ∧ Ho sb = 0 ∧ Gb sb = 0 ∧ Hp sb = 0) (h7 : w.heap[sb]? = some (.cells #[.int .i64 (d : Int), .int .i64 (f : Int)] 55 (0, 0))) (h8 : W.heap.size ≤ sb) (h9 : W.heap.size ≤ B ∧ W.heap.size ≤ B2) (h10 : Below W.heap.size W w) (hg : 0 ≤ gb ∧ gb < 64) (hE : Env8 W Ad) (hy : y.ok) :
  Calls Tryz.prog 15 #[.pointer (some ⟨ob, 0, none⟩), .agg #[.int .i64 y.k, .int .i64 y.id, .int .u32 (y.m : Int), .int .i64 y.c]] w (fun e w' => ∃ v, e = .returned v ∧ TQ B B2 W wa wb oa ob kva kvb k k' sb La (taken y) a1 a2 (gb + ((taken y).length : Int)) d f n w') := by
 have hEv : Ev B2 w Ad := ⟨W, hE, h9.2, h10⟩
 unfold taken at h1 ⊢
 cases hc : y.can 3 with
 | false =>
  rw [hc] at h1
  refine (add_arg h2.oz hEv.env y hy hc).mono ?_
  rintro e w' ⟨v, rfl, -, k2⟩
  have q1 := h1.later k2
  have q2 := h2.later k2
  simp at q1 ⊢
  exact ⟨⟨Ga, Ho, ova, Gb, Hp, ovb, ta, tb, q1, q2, h3, h4, h5, h6⟩, blk_seen k2 (Nat.le_refl _) h7, h8, h9, h10.trans (k2.mono h10.size)⟩
 | true =>
  rw [hc] at h1
  refine (add_ok h2.oz hEv y hy hc (by show gb ≠ 64; omega) (by show (0 : Nat) < 900; omega)).mono ?_
  rintro e w' ⟨rfl, H', ov', ho, hu⟩
  obtain ⟨p, s2⟩ := h2.turn hu ho rfl
  obtain ⟨q1, q2, q3, q4⟩ := tq_one (sb := sb) h1 (dis_flip h5) ⟨h6.2.2.1, h6.2.2.2, h6.1, h6.2.1⟩ h7 s2
  simp at q1 p ⊢
  exact ⟨⟨Ga, Ho, ova, Gb, H', ov', ta, tb, q1, p, h3, h4, dis_flip q2, ⟨q3.2.2.1, q3.2.2.2, q3.1, q3.2.1⟩⟩, q4, h8, h9, h10.trans ((s2.bel h2).mono h9.2)⟩
theorem tq_flush2 (h : TQ B B2 W wa wb oa ob kva kvb k k' sb La Lb a1 a2 gb d f n w) (hn : n + Lb.length ≤ 200) (ha : a2.n ≤ 1000) (hl : Lb.length ≤ 200) (hE : Env8 W Ad) :
  Calls Tryz.prog 17 #[.pointer (some ⟨ob, 0, none⟩), .pointer (some ⟨wb, 0, none⟩)] w (fun e w' => e = .returned (.tuple #[.agg #[.int .i64 (((runA k' a2 Lb).d : Nat) : Int), .int .i64 (((runA k' a2 Lb).f : Nat) : Int)], .nilIface]) ∧ TQ B B2 W wa wb oa ob kva kvb k k' sb La [] a1 (runA k' a2 Lb).a gb d f (n + Lb.length) w') := by
 obtain ⟨⟨Ga, Ho, ova, Gb, Hp, ovb, ta, tb, h1, h2, h3, h4, h5, h6⟩, h7, h8, h9, h10⟩ := h
 have hEv : Ev B2 w Ad := ⟨W, hE, h9.2, h10⟩
 refine (flush_any h2 hEv (by show tb + Lb.length ≤ 900; omega) (by show a2.n + (Lb.length : Int) ≤ 1073741824; omega)).mono ?_
 rintro e w' ⟨rfl, G', H', ov', p, s2⟩
 obtain ⟨q1, q2, q3, q4⟩ := tq_one (sb := sb) h1 (dis_flip h5) ⟨h6.2.2.1, h6.2.2.2, h6.1, h6.2.1⟩ h7 s2
 exact ⟨rfl, ⟨Ga, Ho, ova, G', H', ov', ta, _, q1, p, by omega, by show tb + Lb.length ≤ _; omega, dis_flip q2, ⟨q3.2.2.1, q3.2.2.2, q3.1, q3.2.1⟩⟩, q4, h8, h9, h10.trans ((s2.bel h2).mono h9.2)⟩
theorem tq_flush1 (h : TQ B B2 W wa wb oa ob kva kvb k k' sb La Lb a1 a2 gb d f n w) (hn : n + La.length ≤ 200) (ha : a1.n ≤ 1000) (hl : La.length ≤ 200) (hE : Env8 W Ad) :
  Calls Tryz.prog 17 #[.pointer (some ⟨oa, 0, none⟩), .pointer (some ⟨wa, 0, none⟩)] w (fun e w' => e = .returned (.tuple #[.agg #[.int .i64 (((runA k a1 La).d : Nat) : Int), .int .i64 (((runA k a1 La).f : Nat) : Int)], .nilIface]) ∧ TQ B B2 W wa wb oa ob kva kvb k k' sb [] Lb (runA k a1 La).a a2 gb d f (n + La.length) w') := by
 obtain ⟨⟨Ga, Ho, ova, Gb, Hp, ovb, ta, tb, h1, h2, h3, h4, h5, h6⟩, h7, h8, h9, h10⟩ := h
 have hEv : Ev B w Ad := ⟨W, hE, h9.1, h10⟩
 refine (flush_any h1 hEv (by show ta + La.length ≤ 900; omega) (by show a1.n + (La.length : Int) ≤ 1073741824; omega)).mono ?_
 rintro e w' ⟨rfl, G', H', ov', p, s2⟩
 obtain ⟨q1, q2, q3, q4⟩ := tq_one (sb := sb) h2 h5 h6 h7 s2
 exact ⟨rfl, ⟨G', H', ov', Gb, Hp, ovb, _, tb, p, q1, by show ta + La.length ≤ _; omega, by omega, q2, q3⟩, q4, h8, h9, h10.trans ((s2.bel h1).mono h9.1)⟩
theorem tq_flush1n {w2 : World} {rb : Nat} {c : Array Value} {e : TypeId} (h : TQ B B2 W wa wb oa ob kva kvb k k' sb La Lb a1 a2 gb d f n w) (hn : n + La.length ≤ 200) (ha : a1.n ≤ 1000) (hl : La.length ≤ 200) (hE : Env8 W Ad) (hb : Below w.heap.size w w2) (hr : w2.heap[rb]? = some (.cells c e (0, 0))) (hrb : w.heap.size ≤ rb) :
  Calls Tryz.prog 17 #[.pointer (some ⟨oa, 0, none⟩), .pointer (some ⟨wa, 0, none⟩)] w2 (fun e' w' => e' = .returned (.tuple #[.agg #[.int .i64 (((runA k a1 La).d : Nat) : Int), .int .i64 (((runA k a1 La).f : Nat) : Int)], .nilIface]) ∧ TQ B B2 W wa wb oa ob kva kvb k k' sb [] Lb (runA k a1 La).a a2 gb d f (n + La.length) w' ∧ w'.heap[rb]? = some (.cells c e (0, 0))) := by
 obtain ⟨⟨Ga, Ho, ova, Gb, Hp, ovb, ta, tb, h1, h2, h3, h4, h5, h6⟩, h7, h8, h9, h10⟩ := h
 have g0 : Ga rb = 0 ∧ Ho rb = 0 := ⟨Classical.byContradiction fun q => by have := (h1.wa.fin _ q).2; omega, Classical.byContradiction fun q => by have := (h1.oz.fin _ q).2; omega⟩
 have h1' := h1.later hb
 have h2' := h2.later hb
 have h7' := blk_seen hb (Nat.le_refl _) h7
 have h10' := h10.trans (hb.mono h10.size)
 have hEv : Ev B w2 Ad := ⟨W, hE, h9.1, h10'⟩
 refine (flush_any h1' hEv (by show ta + La.length ≤ 900; omega) (by show a1.n + (La.length : Int) ≤ 1073741824; omega)).mono ?_
 rintro e w' ⟨rfl, G', H', ov', p, s2⟩
 obtain ⟨q1, q2, q3, q4⟩ := tq_one (sb := sb) h2' h5 h6 h7' s2
 exact ⟨rfl, ⟨⟨G', H', ov', Gb, Hp, ovb, _, tb, p, q1, by show ta + La.length ≤ _; omega, by omega, q2, q3⟩, q4, h8, h9, h10'.trans ((s2.bel h1').mono h9.1)⟩, s2.st.at hr fun q => by rcases q with q | q; exact q g0.1; exact q g0.2⟩
theorem TQ.put (h : TQ B B2 W wa wb oa ob kva kvb k k' sb La Lb a1 a2 gb d f n w) (d' f' : Nat) : TQ B B2 W wa wb oa ob kva kvb k k' sb La Lb a1 a2 gb d' f' n (Bd.put2 w sb (d' : Int) (f' : Int)) := by
 obtain ⟨⟨Ga, Ho, ova, Gb, Hp, ovb, ta, tb, h1, h2, h3, h4, h5, h6⟩, h7, h8, h9, h10⟩ := h
 have st := Bd.put2_st w sb (d' : Int) (f' : Int)
 exact ⟨⟨Ga, Ho, ova, Gb, Hp, ovb, ta, tb, h1.beside st (fun j hj e => hj (by rw [e]; exact h6.1)) (fun j hj e => hj (by rw [e]; exact h6.2.1)), h2.beside st (fun j hj e => hj (by rw [e]; exact h6.2.2.1)) (fun j hj e => hj (by rw [e]; exact h6.2.2.2)), h3, h4, h5, h6⟩, Bd.put2_blk h7 _ _, h8, h9, h10.trans (st.below (fun j e => by omega) h10.size)⟩
theorem TQ.first {B3 B4 : Nat} {w3 w5 w7 w9 w10 : World} {Ga Gb Ho Hp : Wo.Own} (hwa : Wa B Ga w3 wa k 0 aw0) (hwb : Wa B2 Gb w5 wb k' 0 aw0) (hoa : Oz B3 Ho w7 oa kva (.slice none 0 0) ⟨small3, 64, [], 0, 0⟩) (hob : Oz B4 Hp w9 ob kvb (.slice none 0 0) ⟨small3, 64, [], 0, 0⟩)
  (b35 : Below w3.heap.size w3 w5) (b57 : Below w5.heap.size w5 w7) (b79 : Below w7.heap.size w7 w9) (b910 : Below w9.heap.size w9 w10) (h1 : w3.heap.size ≤ B2) (h2 : w5.heap.size ≤ B3) (h3 : w7.heap.size ≤ B4) (c1 : k.x.cs = small3) (c2 : k'.x.cs = small3) (hs : w10.heap[w9.heap.size]? = some (.cells #[.int .i64 0, .int .i64 0] 55 (0, 0))) (low : W.heap.size ≤ B) (bel : Below W.heap.size W w9) :
  TQ B B2 W wa wb oa ob kva kvb k k' w9.heap.size [] [] aw0 aw0 0 0 0 0 w10 := by
 have s35 := b35.size
 have s57 := b57.size
 have s79 := b79.size
 have b39 : Below w3.heap.size w3 w9 := b35.trans ((b57.trans (b79.mono s57)).mono s35)
 have b59 : Below w5.heap.size w5 w9 := b57.trans (b79.mono s57)
 have p1 := Pr.made hwa b39 (hoa.later b79) (by omega) c1
 have p2 := Pr.made hwb b59 hob (by omega) c2
 refine ⟨⟨Ga, Ho, _, Gb, Hp, _, 0, 0, p1.later b910, p2.later b910, Nat.le_refl _, Nat.le_refl _, fun j hj => ?_, ?_⟩, hs, bel.size, ⟨low, by have := hwa.big; omega⟩, bel.trans (b910.mono bel.size)⟩
 ·refine ⟨Classical.byContradiction fun q => ?_, Classical.byContradiction fun q => ?_⟩
  ·have z := hwb.fin j q
   rcases hj with e | e
   ·have := hwa.fin j e; omega
   ·have := hoa.fin j e; omega
  ·have z := hob.fin j q
   rcases hj with e | e
   ·have := hwa.fin j e; omega
   ·have := hoa.fin j e; omega
 ·refine ⟨Classical.byContradiction fun q => ?_, Classical.byContradiction fun q => ?_, Classical.byContradiction fun q => ?_, Classical.byContradiction fun q => ?_⟩
  ·have := hwa.fin _ q; omega
  ·have := hoa.fin _ q; omega
  ·have := hwb.fin _ q; omega
  ·have := hob.fin _ q; omega
theorem tq_state1 (h : TQ B B2 W wa wb oa ob kva kvb k k' sb La Lb a1 a2 gb d f n w) :
  Calls Tryz.prog 30 #[.pointer (some ⟨wa, 0, none⟩)] w (fun e w' => ∃ ba bn bc ra rn rc, e = .returned (.agg #[.int .i64 a1.fr, .int .i64 a1.n, .int .i64 a1.sd, .slice ba bn bc, .slice ra rn rc]) ∧ (∃ E, Wo.Bes w.heap.size w' (.slice ba bn bc) E (Wo.stL small3 a1.L)) ∧ Wo.NumO w.heap.size w' (.slice ra rn rc) a1.gl ∧ Below w.heap.size w w') := by
 obtain ⟨⟨Ga, Ho, ova, Gb, Hp, ovb, ta, tb, h1, h2, -⟩, -⟩ := h
 have hc : k.x.cs = small3 := h1.cs
 have := Wo.state_any h1.wa fun x hx => Nat.le_trans (rows_few h1.wa x hx) (by decide)
 rw [hc] at this
 exact this
theorem tq_state2 (h : TQ B B2 W wa wb oa ob kva kvb k k' sb La Lb a1 a2 gb d f n w) :
  Calls Tryz.prog 30 #[.pointer (some ⟨wb, 0, none⟩)] w (fun e w' => ∃ ba bn bc ra rn rc, e = .returned (.agg #[.int .i64 a2.fr, .int .i64 a2.n, .int .i64 a2.sd, .slice ba bn bc, .slice ra rn rc]) ∧ (∃ E, Wo.Bes w.heap.size w' (.slice ba bn bc) E (Wo.stL small3 a2.L)) ∧ Wo.NumO w.heap.size w' (.slice ra rn rc) a2.gl ∧ Below w.heap.size w w') := by
 obtain ⟨⟨Ga, Ho, ova, Gb, Hp, ovb, ta, tb, h1, h2, -⟩, -⟩ := h
 have hc : k'.x.cs = small3 := h2.cs
 have := Wo.state_any h2.wa fun x hx => Nat.le_trans (rows_few h2.wa x hx) (by decide)
 rw [hc] at this
 exact this
theorem tq_count1 (h : TQ B B2 W wa wb oa ob kva kvb k k' sb La Lb a1 a2 gb d f n w) : Calls Tryz.prog 26 #[.pointer (some ⟨wa, 0, none⟩)] w (fun e w' => e = .returned (.int .i64 (a1.L.length : Int)) ∧ w' = w) := by
 obtain ⟨⟨Ga, Ho, ova, Gb, Hp, ovb, ta, tb, h1, h2, -⟩, -⟩ := h
 exact Wo.count_any h1.wa
theorem tq_count2 (h : TQ B B2 W wa wb oa ob kva kvb k k' sb La Lb a1 a2 gb d f n w) : Calls Tryz.prog 26 #[.pointer (some ⟨wb, 0, none⟩)] w (fun e w' => e = .returned (.int .i64 (a2.L.length : Int)) ∧ w' = w) := by
 obtain ⟨⟨Ga, Ho, ova, Gb, Hp, ovb, ta, tb, h1, h2, -⟩, -⟩ := h
 exact Wo.count_any h2.wa
theorem tq_few (h : TQ B B2 W wa wb oa ob kva kvb k k' sb La Lb a1 a2 gb d f n w) : a1.L.length ≤ 64 ∧ (∀ x ∈ a1.L, x.2.length ≤ 16) ∧ a1.gl.length ≤ 64 := by
 obtain ⟨⟨Ga, Ho, ova, Gb, Hp, ovb, ta, tb, h1, h2, -⟩, -⟩ := h
 refine ⟨h1.wa.few, rows_few h1.wa, ?_⟩
 obtain ⟨⟨p, q1, q2, q3, q4, q5, q6, q7, q8, q9⟩, -⟩ := h1.wa
 obtain ⟨mb, v, g1, -⟩ := q1.z.gd
 rw [← q9]
 exact Nat.le_trans g1.few (by decide)
end
end Or
namespace Or
open Go.RowKit Go.Shelf Go.Maps
open At (bAl cell_blk blk_seen blk_free)
theorem taken_len (y : Od) : (taken y).length ≤ 1 := by unfold taken; split <;> simp
theorem ord_at {W w : World} {ca : Option Addr} {cc : Nat} {cl : List Od} (h : OrdRow W (.slice ca cl.length cc) cl) (hb : Below W.heap.size W w) {q : Nat} {y : Od} (hy : cl[q]? = some y) : ∃ b o, ca = some ⟨b, o, none⟩ ∧ Fou w b (o + q * 4) y := by
 obtain ⟨a', c', hv, -, hl⟩ := h.later hb
 obtain ⟨rfl, rfl⟩ : ca = a' ∧ cc = c' := by simpa using hv
 rcases hl with h | ⟨b, o, h4, h5⟩
 ·rw [h] at hy; simp at hy
 ·exact ⟨b, o, h4, h5 q y hy⟩
set_option maxHeartbeats 12800000 in
set_option maxRecDepth 100000 in
theorem turns_law (w : World) (Ad : Nat → Addr) (hE : Env8 w Ad) (av : Value) (cl : List Od) (hC : OrdRow w av cl) :
  Calls Tryz.prog 5 #[av] w fun e w' => e = .returned (.bool true) ∧ Below w.heap.size w w' := by
 obtain ⟨ca, cc, rfl, hok, -⟩ := id hC
 have HC := hid hC
 have HOK := hid hok
 have AW := hid (awake_any Ad w hE)
 have HE := hid hE
 clear hE hC hok
 by_cases hlen : cl.length ≤ 60
 ·have hli : (cl.length : Int) ≤ 60 := by omega
  go_enter Tryz.func5, Tryz.ntmps5
  go_wp2_with fail
  refine AW.out.mono ?_
  rintro e w1 ⟨rfl, b1⟩
  have B1 := hid b1
  have S1 := hid (small_any w1)
  clear AW b1
  go_wp2_with fail
  refine S1.out.mono ?_
  rintro e w2 ⟨g, rfl, hr2, hb2⟩
  have B2 := hid (B1.out.trans (hb2.mono B1.out.size))
  have N2 := hid (world_small Ad w2 (HE.out.later B2.out) hr2 8 (by decide))
  clear hr2 hb2 S1
  go_wp2_with fail
  refine N2.out.mono ?_
  rintro e w3 ⟨wa, k, Ga, rfl, hwa, hb⟩
  have HWA := hid hwa
  have B3 := hid (B2.out.trans (hb.mono B2.out.size))
  have S3 := hid (small_any w3)
  clear hwa hb N2
  go_wp2_with fail
  refine S3.out.mono ?_
  rintro e w4 ⟨g2, rfl, hr4, hb4⟩
  have B34 := hid hb4
  have B4 := hid (B3.out.trans (hb4.mono B3.out.size))
  have N4 := hid (world_small Ad w4 (HE.out.later B4.out) hr4 8 (by decide))
  clear hr4 hb4 S3
  go_wp2_with fail
  refine N4.out.mono ?_
  rintro e w5 ⟨wb, k', Gb, rfl, hwb, hb⟩
  have HWB := hid hwb
  have B35 := hid (B34.out.trans (hb.mono B34.out.size))
  have B5 := hid (B4.out.trans (hb.mono B4.out.size))
  have S5 := hid (small_any w5)
  clear hwb hb N4
  go_wp2_with fail
  refine S5.out.mono ?_
  rintro e w6 ⟨g3, rfl, hr6, hb6⟩
  have B56 := hid hb6
  have B6 := hid (B5.out.trans (hb6.mono B5.out.size))
  have N6 := hid (orders_small Ad w6 (HE.out.later B6.out) hr6 64 (by decide) (by decide))
  clear hr6 hb6 S5
  go_wp2_with fail
  refine N6.out.mono ?_
  rintro e w7 ⟨oa, kva, Ho, rfl, hoa, hb⟩
  have HOA := hid hoa
  have B57 := hid (B56.out.trans (hb.mono B56.out.size))
  have B7 := hid (B6.out.trans (hb.mono B6.out.size))
  have S7 := hid (small_any w7)
  clear hoa hb N6
  go_wp2_with fail
  refine S7.out.mono ?_
  rintro e w8 ⟨g4, rfl, hr8, hb8⟩
  have B78 := hid hb8
  have B8 := hid (B7.out.trans (hb8.mono B7.out.size))
  have N8 := hid (orders_small Ad w8 (HE.out.later B8.out) hr8 64 (by decide) (by decide))
  clear hr8 hb8 S7
  go_wp2_with fail
  refine N8.out.mono ?_
  rintro e w9 ⟨ob, kvb, Hp, rfl, hob, hb⟩
  have B79 := hid (B78.out.trans (hb.mono B78.out.size))
  have B9 := hid (B8.out.trans (hb.mono B8.out.size))
  obtain ⟨wx, hwx⟩ : ∃ wx, wx = w9.alloc (.cells #[.int .i64 0, .int .i64 0] 55) := ⟨_, rfl⟩
  have bx : Below w9.heap.size w9 wx := by rw [hwx]; exact bAl _ _
  have rx : wx.heap[w9.heap.size]? = some (.cells #[.int .i64 0, .int .i64 0] 55 (0, 0)) := by rw [hwx]; exact heap_alloc_new w9 _
  have HKK : Hid (k.x.cs = k'.x.cs ∧ k.ws = k'.ws ∧ k.most = k'.most) := hid ⟨HWA.out.2.1.trans HWB.out.2.1.symm, HWA.out.2.2.1.trans HWB.out.2.2.1.symm, HWA.out.2.2.2.trans HWB.out.2.2.2.symm⟩
  have TQ0 := hid (TQ.first (W := w) HWA.out.1 HWB.out.1 HOA.out hob B35.out B57.out B79.out bx (by have := B34.out.size; omega) (by have := B56.out.size; omega) (by have := B78.out.size; omega) HWA.out.2.1 HWB.out.2.1 rx (by have := B2.out.size; omega) B9.out)
  have HWX := hid hwx
  generalize hsb : w9.heap.size = sb at *
  generalize w2.heap.size + 1 = B at *
  generalize w4.heap.size + 1 = BB at *
  clear hob hb N8 hwx bx rx B2 B3 B34 B4 B35 B5 B56 B6 B57 B7 B78 B8 B79 HWA HWB HOA
  go_upto_region 12 with fail
  try rw [hsb]
  rw [← HWX.out]
  clear HWX
  go_wp2_with fail
  go_loopg [12, 13, 14] cl.length (fun gh i _ _ wr => ∃ (q : Nat) (Ls : List Od), q ≤ cl.length ∧ gh = cl.length - q ∧ i = .int .i64 (q : Int) ∧ Hid (TQ B BB w wa wb oa ob kva kvb k k' sb Ls [] aw0 (runA k aw0 Ls).a (Ls.length : Int) (runA k aw0 Ls).d (runA k aw0 Ls).f (2 * q) wr) ∧ Hid (Ls.length ≤ q))
  case atStart => exact ⟨0, [], Nat.zero_le _, rfl, rfl, TQ0.out, Nat.le_refl _⟩
  case round =>
   clear TQ0
   rename World => wr
   obtain ⟨q, Ls, hq, rfl, rfl, HQ, HL⟩ := hrel
   have HEW := hid (HE.out.later HQ.out.bel)
   by_cases h1 : q < cl.length
   ·have h1i : (q : Int) < (cl.length : Int) := by omega
    obtain ⟨y, hy⟩ := at_lt cl q h1
    have hwf := HOK.out y (List.mem_of_getElem? hy)
    have HY := hid hy
    have HWF := hid hwf
    obtain ⟨b, o, rfl, c0, c1, c2, c3⟩ := ord_at HC.out HQ.out.bel hy
    have hl60 : Ls.length < 60 := by have := HL.out; omega
    have AD := hid (tq_add HQ.out (by omega) (by omega) HE.out y hwf)
    clear hy hwf
    go_wp2_with fail
    refine AD.out.mono ?_
    rintro e wz ⟨v, rfl, hs, hbz, Ga', Ho', ova, Gb', Hp', ovb, ta, tb, p1, p2, hta, htb, hdj, h0⟩
    obtain ⟨b', o', e', d0, d1, d2, d3⟩ := ord_at HC.out hbz HY.out
    obtain ⟨rfl, rfl⟩ : b = b' ∧ o = o' := by simpa using e'
    have AD2 := hid (tq_add2 p1 p2 hta htb hdj h0 (hs.trans HQ.out.sum) HQ.out.sbl HQ.out.low hbz (by omega) HE.out HWF.out)
    clear p1 p2 hta htb hdj h0 hs hbz AD c0 c1 c2 c3 e'
    go_wp2_with fail
    refine AD2.out.mono ?_
    rintro e wy ⟨v2, rfl, h2⟩
    have htl := taken_len y
    have han : (runA k aw0 Ls).a.n ≤ 1000 := by have := (runA_n k aw0 Ls).2.1; have e1 : aw0.n = 1 := rfl; omega
    have FL := hid (tq_flush2 h2 (by omega) han (by omega) HE.out)
    rw [runA_k (k := k') (k' := k) HKK.out.1.symm HKK.out.2.1.symm HKK.out.2.2.symm] at FL
    clear h2 AD2 d0 d1 d2 d3
    go_wp2_with fail
    refine FL.out.mono ?_
    rintro e wv ⟨rfl, h3⟩
    have hsum1 := runA_sum k aw0 Ls
    have hsum2 := runA_sum k (runA k aw0 Ls).a (taken y)
    have hap := runA_app k aw0 Ls (taken y)
    have hd' : (runA k aw0 (Ls ++ taken y)).d = (runA k aw0 Ls).d + (runA k (runA k aw0 Ls).a (taken y)).d := by rw [hap]
    have hf' : (runA k aw0 (Ls ++ taken y)).f = (runA k aw0 Ls).f + (runA k (runA k aw0 Ls).a (taken y)).f := by rw [hap]
    have ha' : (runA k aw0 (Ls ++ taken y)).a = (runA k (runA k aw0 Ls).a (taken y)).a := by rw [hap]
    rw [← ha'] at h3
    generalize hD : (runA k aw0 Ls).d = D at *
    generalize hF : (runA k aw0 Ls).f = F at *
    generalize hD2 : (runA k (runA k aw0 Ls).a (taken y)).d = D2 at *
    generalize hF2 : (runA k (runA k aw0 Ls).a (taken y)).f = F2 at *
    obtain ⟨wu, hwu⟩ : ∃ wu, wu = wv.alloc (.cells #[.int .i64 (D2 : Int), .int .i64 (F2 : Int)] 55) := ⟨_, rfl⟩
    have bu : Below wv.heap.size wv wu := by rw [hwu]; exact bAl _ _
    have ru : wu.heap[wv.heap.size]? = some (.cells #[.int .i64 (D2 : Int), .int .i64 (F2 : Int)] 55 (0, 0)) := by rw [hwu]; exact heap_alloc_new wv _
    have h4 := h3.later bu
    have z0 : wu.cell? ⟨wv.heap.size, 0, none⟩ = some (.int .i64 (D2 : Int)) := cell_blk ru rfl
    have z1 : wu.cell? ⟨wv.heap.size, 1, none⟩ = some (.int .i64 (F2 : Int)) := cell_blk ru rfl
    have s0 : wu.cell? ⟨sb, 0, none⟩ = some (.int .i64 (D : Int)) := cell_blk h4.sum rfl
    have s1 : wu.cell? ⟨sb, 1, none⟩ = some (.int .i64 (F : Int)) := cell_blk h4.sum rfl
    have f0 := blk_free h4.sum 0
    have f1 := blk_free h4.sum 1
    have PT := h4.put (D + D2) (F + F2)
    have PT2 := PT.more (n' := 2 * (q + 1)) (by omega)
    unfold Bd.put2 at PT2
    have e1 : ((D + D2 : Nat) : Int) = (D : Int) + (D2 : Int) := by omega
    have e2 : ((F + F2 : Nat) : Int) = (F : Int) + (F2 : Int) := by omega
    rw [e1, e2, ← hd', ← hf'] at PT2
    have HPT := hid PT2
    have hDb : (D : Int) ≤ 100 ∧ (F : Int) ≤ 100 ∧ (D2 : Int) ≤ 100 ∧ (F2 : Int) ≤ 100 := by omega
    obtain ⟨hb1, hb2, hb3, hb4⟩ := hDb
    have HWU := hid hwu
    clear h3 h4 bu ru hwu FL PT PT2 hd' hf' ha' hap hD hF hD2 hF2 hsum1 hsum2 e1 e2 HQ
    go_upto_region 18 with fail
    rw [← HWU.out]
    clear HWU
    generalize wv.heap.size = rb at *
    go_wp2_with fail
    go_roundg (cl.length - (q + 1))
    case measure => omega
    case rel =>
     refine ⟨q + 1, Ls ++ taken y, by omega, rfl, by go_num, ?_, ?_⟩
     ·have e : ((Ls ++ taken y).length : Int) = (Ls.length : Int) + ((taken y).length : Int) := by rw [List.length_append]; omega
      rw [e]
      exact HPT.out
     ·have := HL.out
      show (Ls ++ taken y).length ≤ q + 1
      rw [List.length_append]
      omega
   ·have h1i : ¬ (q : Int) < (cl.length : Int) := by omega
    have hl60 : Ls.length ≤ 60 := by have := HL.out; omega
    have han : (runA k aw0 Ls).a.n ≤ 1000 := by have := (runA_n k aw0 Ls).2.1; have e1 : aw0.n = 1 := rfl; omega
    have FA := hid (tq_flush1 HQ.out (by omega) (by decide) (by omega) HE.out)
    clear HQ
    go_wp2_with fail
    refine FA.out.mono ?_
    rintro e wv ⟨rfl, h3⟩
    generalize hX : (runA k aw0 Ls).a = X at *
    generalize hD : (runA k aw0 Ls).d = D at *
    generalize hF : (runA k aw0 Ls).f = F at *
    obtain ⟨wu, hwu⟩ : ∃ wu, wu = wv.alloc (.cells #[.int .i64 (D : Int), .int .i64 (F : Int)] 55) := ⟨_, rfl⟩
    have bu : Below wv.heap.size wv wu := by rw [hwu]; exact bAl _ _
    have ru : wu.heap[wv.heap.size]? = some (.cells #[.int .i64 (D : Int), .int .i64 (F : Int)] 55 (0, 0)) := by rw [hwu]; exact heap_alloc_new wv _
    have FB : Hid (Calls Tryz.prog 17 #[.pointer (some ⟨oa, 0, none⟩), .pointer (some ⟨wa, 0, none⟩)] wu fun e w' => e = .returned (.tuple #[.agg #[.int .i64 0, .int .i64 0], .nilIface]) ∧ TQ B BB w wa wb oa ob kva kvb k k' sb [] [] X X (Ls.length : Int) D F (2 * q + Ls.length) w' ∧ w'.heap[wv.heap.size]? = some (.cells #[.int .i64 (D : Int), .int .i64 (F : Int)] 55 (0, 0))) := hid (tq_flush1n h3 (by simp; omega) han (by simp) HE.out bu ru (Nat.le_refl _))
    have HWU := hid hwu
    clear h3 bu ru hwu FA hX hD hF
    go_upto_region 22 with fail
    rw [← HWU.out]
    clear HWU
    generalize wv.heap.size = rb at *
    go_wp2_with fail
    refine FB.out.mono ?_
    rintro e wt ⟨rfl, h5, hrb⟩
    obtain ⟨ws, hws⟩ : ∃ ws, ws = wt.alloc (.cells #[.int .i64 0, .int .i64 0] 55) := ⟨_, rfl⟩
    have bs : Below wt.heap.size wt ws := by rw [hws]; exact bAl _ _
    have rs : ws.heap[wt.heap.size]? = some (.cells #[.int .i64 0, .int .i64 0] 55 (0, 0)) := by rw [hws]; exact heap_alloc_new wt _
    have h6 := h5.later bs
    have H6 := hid h6
    have er := eqlR
    have v0 : ws.cell? ⟨rb, 0, none⟩ = some (.int .i64 (D : Int)) := cell_blk (blk_seen bs (Nat.le_refl _) hrb) rfl
    have v1 : ws.cell? ⟨rb, 1, none⟩ = some (.int .i64 (F : Int)) := cell_blk (blk_seen bs (Nat.le_refl _) hrb) rfl
    have s0 : ws.cell? ⟨sb, 0, none⟩ = some (.int .i64 (D : Int)) := cell_blk h6.sum rfl
    have s1 : ws.cell? ⟨sb, 1, none⟩ = some (.int .i64 (F : Int)) := cell_blk h6.sum rfl
    have z0 : ws.cell? ⟨wt.heap.size, 0, none⟩ = some (.int .i64 0) := cell_blk rs rfl
    have z1 : ws.cell? ⟨wt.heap.size, 1, none⟩ = some (.int .i64 0) := cell_blk rs rfl
    have SA := hid (tq_state1 h6)
    have HWS := hid hws
    obtain ⟨few1, few2, few3⟩ := tq_few h6
    clear h5 h6 hrb bs rs hws FB
    go_upto_region 23 with fail
    rw [← HWS.out]
    clear HWS
    generalize wt.heap.size = tb at *
    go_wp2_with fail
    refine SA.out.mono ?_
    rintro e wr1 ⟨ba, bn, bc, ra, rn, rc, rfl, ⟨E1, hE1⟩, hn1, hb1⟩
    have H7 := hid (H6.out.later hb1)
    have SC := hid (tq_state2 H7.out)
    have HE1 := hid hE1
    have HN1 := hid hn1
    clear hE1 hn1 hb1 SA
    go_wp2_with fail
    refine SC.out.mono ?_
    rintro e wr2 ⟨ba', bn', bc', ra', rn', rc', rfl, ⟨E2, hE2⟩, hn2, hb2⟩
    have H8 := hid (H7.out.later hb2)
    have hl1 : (Wo.stL small3 X.L).length ≤ 1000 := by unfold Wo.stL; rw [List.length_map]; omega
    have SM := hid (Wo.same_any wr2 _ _ X.fr X.n X.sd ba ba' ra ra' bn bc bn' bc' rn rc rn' rc' E1 E2 (Wo.stL small3 X.L) X.gl (HE1.out.later hb2) hE2 hl1 (fun x hx => Nat.le_trans (stL_few few2 x hx) (by decide)) ((HN1.out.later hb2).num) hn2.num (by omega))
    clear hE2 hn2 hb2 SC
    go_wp2_with fail
    refine SM.out.mono ?_
    rintro e wr3 ⟨rfl, hb3⟩
    have H9 := hid (H8.out.later hb3)
    have C1 := hid (tq_count1 H9.out)
    have C2 := hid (tq_count2 H9.out)
    clear hb3 SM
    go_wp2_with fail
    refine C1.out.mono ?_
    rintro e wr4 ⟨rfl, rfl⟩
    go_wp2_with fail
    refine C2.out.mono ?_
    rintro e wr5 ⟨rfl, rfl⟩
    go_wp2_with fail
    go_ret
    exact ⟨rfl, H9.out.bel⟩
 ·have hli : ¬ (cl.length : Int) ≤ 60 := by omega
  go_enter Tryz.func5, Tryz.ntmps5
  go_wp2_with fail
  refine AW.out.mono ?_
  rintro e w1 ⟨rfl, b1⟩
  have B1 := hid b1
  clear AW b1
  go_wp2_with fail
  go_ret
  exact ⟨rfl, B1.out⟩
end Or
end Go.Proofs.YthadfdbkkmmgoaaGreatDoor
