/- A part of the proof. -/
import Derived.Test.YthadfdbkkmmgoaaGreatDoorMao
namespace Go.Proofs.YthadfdbkkmmgoaaGreatDoor
namespace Wo
open Go.RowKit Go.Shelf Go.Maps
open At (St)
open Rs (Prt Prts)
open Sc (Cmp)
def stL (cs : List Cmp) (L : Bgs) : Bgs := L.map fun x => (x.1, x.2.filter (stays cs))
def stM (cs : List Cmp) (L : Bgs) (j : Nat) : Bgs := stL cs (L.take j) ++ L.drop j
theorem stM_len (cs : List Cmp) (L : Bgs) (j : Nat) : (stM cs L j).length = L.length := by unfold stM stL; rw [List.length_append, List.length_map, ← List.length_append, List.take_append_drop]
theorem stM_at {cs : List Cmp} {L : Bgs} {j : Nat} {x : Int × List Prt} (h : L[j]? = some x) : (stM cs L j)[j]? = some x := by
 have hl := (List.getElem?_eq_some_iff.1 h).1
 unfold stM stL
 rw [List.getElem?_append_right (by simp; omega), List.length_map, List.length_take, Nat.min_eq_left (by omega), Nat.sub_self, List.getElem?_drop]
 exact h
theorem stM_next {cs : List Cmp} {L : Bgs} {j : Nat} {id : Int} {row : List Prt} (h : L[j]? = some (id, row)) : (stM cs L j).set j (id, row.filter (stays cs)) = stM cs L (j + 1) := by
 obtain ⟨hl, e⟩ := List.getElem?_eq_some_iff.1 h
 unfold stM stL
 rw [List.set_append_right _ _ (by simp; omega), List.length_map, List.length_take, Nat.min_eq_left (by omega), Nat.sub_self, List.drop_eq_getElem_cons hl, List.set_cons_zero, List.take_succ_eq_append_getElem hl, List.map_append, e]
 simp
theorem stM_end (cs : List Cmp) (L : Bgs) : stM cs L L.length = stL cs L := by unfold stM; rw [List.take_length, List.drop_length, List.append_nil]
theorem Bes.put {N : Nat} {W w' : World} {g n c j : Nat} {E : List (Int × Value)} {L : Bgs} {id : Int} {pv pv' : Value} {row row' : List Prt} (h : Bes N W (.slice (some ⟨g, 0, none⟩) n c) E L) (hj : E[j]? = some (id, pv)) (hL : L[j]? = some (id, row)) (hp : Prts N W pv row) (hs : St (fun x => pv.ownBlock = some x) W w') (hp' : Prts N w' pv' row') (ho : ∀ y, pv'.ownBlock = some y → pv.ownBlock = some y) :
  Bes N (w'.setCell ⟨g, j * 2 + 1, none⟩ pv') (.slice (some ⟨g, 0, none⟩) n c) (E.set j (id, pv')) (L.set j (id, row')) := by
 have hg : ∀ {N2 : Nat} {w : World} {u : Value} {ps : List Prt}, Prts N2 w u ps → (∃ cur, w.heap[g]? = some (.cells cur 133 (0, 0))) → ∀ y, u.ownBlock = some y → y ≠ g := fun {N2 w u ps} hu hc y hy e => by
  obtain ⟨c1, q1⟩ := So.own_blk hu hy
  obtain ⟨c2, q2⟩ := hc
  rw [e, q2] at q1
  simp at q1
 obtain ⟨-, -, cur, hcur, -⟩ := h.row.blk
 have hng := fun y hy => hg hp ⟨cur, hcur⟩ y hy
 have hrow : BeR N w' (.slice (some ⟨g, 0, none⟩) n c) E := h.row.kept hs fun y hy q => hng y q (by simpa [Value.ownBlock] using hy.symm)
 have hcur' : w'.heap[g]? = some (.cells cur 133 (0, 0)) := hs.at hcur fun q => hng g q rfl
 have hst : St (fun k => k = g) w' (w'.setCell ⟨g, j * 2 + 1, none⟩ pv') := St.setCell _ rfl
 have hjl := (List.getElem?_eq_some_iff.1 hj).1
 refine ⟨hrow.set hj pv', by rw [List.length_set, List.length_set]; exact h.len, fun i id2 pv2 hi => ?_, ?_⟩
 ·by_cases e : i = j
  ·subst e
   rw [List.getElem?_set_self hjl] at hi
   obtain ⟨rfl, rfl⟩ : id = id2 ∧ pv' = pv2 := by simpa using hi
   refine ⟨row', by rw [List.getElem?_set_self (by rw [← h.len]; exact hjl)], So.own_kept hp' hst fun y hy => hng y (ho y hy)⟩
  ·rw [List.getElem?_set_ne (fun q => e q.symm)] at hi
   obtain ⟨ps, q1, q2⟩ := h.at' i id2 pv2 hi
   refine ⟨ps, by rw [List.getElem?_set_ne (fun q => e q.symm)]; exact q1, ?_⟩
   refine So.own_kept (So.own_kept q2 hs fun y hy q => ?_) hst fun y hy => hg q2 ⟨cur, hcur⟩ y hy
   obtain ⟨hil, ei⟩ := List.getElem?_eq_some_iff.1 hi
   obtain ⟨hjl, ej⟩ := List.getElem?_eq_some_iff.1 hj
   rcases Nat.lt_or_gt_of_ne e with lt | lt
   ·have := List.pairwise_iff_getElem.1 h.apart i j hil hjl lt
    rw [ei, ej] at this
    exact this y hy q
   ·have := List.pairwise_iff_getElem.1 h.apart j i hjl hil lt
    rw [ei, ej] at this
    exact this y q hy
 ·rw [List.pairwise_iff_getElem]
  intro i1 i2 h1 h2 hlt k hk hk2
  rw [List.length_set] at h1 h2
  have A := List.pairwise_iff_getElem.1 h.apart i1 i2 h1 h2 hlt
  obtain ⟨hjl2, ej⟩ := List.getElem?_eq_some_iff.1 hj
  rw [List.getElem_set] at hk hk2
  split at hk
  ·rename_i e1
   split at hk2
   ·omega
   ·subst e1
    rw [ej] at A
    exact A k (ho k hk) hk2
  ·split at hk2
   ·rename_i e2
    subst e2
    rw [ej] at A
    exact A k hk (ho k hk2)
   ·exact A k hk hk2
abbrev put5 (W : World) (b : Nat) (v0 v1 v2 v3 v4 : Value) : World := ((((W.setCell ⟨b, 0, none⟩ v0).setCell ⟨b, 1, none⟩ v1).setCell ⟨b, 2, none⟩ v2).setCell ⟨b, 3, none⟩ v3).setCell ⟨b, 4, none⟩ v4
theorem put5_blk {W : World} {b : Nat} {a0 a1 a2 a3 a4 : Value} {e : TypeId} (h : W.heap[b]? = some (.cells #[a0, a1, a2, a3, a4] e (0, 0))) (v0 v1 v2 v3 v4 : Value) : (put5 W b v0 v1 v2 v3 v4).heap[b]? = some (.cells #[v0, v1, v2, v3, v4] e (0, 0)) := by
 have h1 := heap_setCell_same W b 0 _ e v0 h
 have h2 := heap_setCell_same _ b 1 _ e v1 h1
 have h3 := heap_setCell_same _ b 2 _ e v2 h2
 have h4 := heap_setCell_same _ b 3 _ e v3 h3
 have h5 := heap_setCell_same _ b 4 _ e v4 h4
 simpa using h5
theorem put5_st (W : World) (b : Nat) (v0 v1 v2 v3 v4 : Value) : St (fun k => k = b) W (put5 W b v0 v1 v2 v3 v4) := by
 have c := fun (w : World) (j : Nat) (v : Value) => St.setCell (S := fun k => k = b) (a := w) (p := ⟨b, j, none⟩) v rfl
 exact ((((c W 0 _).trans (c _ 1 _) fun _ _ q => q).trans (c _ 2 _) fun _ _ q => q).trans (c _ 3 _) fun _ _ q => q).trans (c _ 4 _) fun _ _ q => q
section
variable {B : Nat} {G G' : Own} {W W' : World} {wb : Nat} {k : WK} {t : Nat} {a : AP} {Ad : Nat → Addr}
theorem wnext_any (h : Wa B G W wb k t a) : Calls Tryz.prog 68 #[.pointer (some ⟨k.x.bb, 0, none⟩)] W fun e W' => e = .returned (.int .i64 a.n) ∧ W' = W := by
 obtain ⟨⟨p, h1, h2, h3, h4, h5, h6, -⟩, -⟩ := h
 obtain ⟨ob, nb, q1, -⟩ := h1.z.bd
 rw [← h6]
 exact Bd.next_any q1
theorem wall_any (h : Wa B G W wb k t a) : Calls Tryz.prog 69 #[.pointer (some ⟨k.x.gb, 0, none⟩)] W fun e W' => ∃ ra rn rc, e = .returned (.slice ra rn rc) ∧ NumO W.heap.size W' (.slice ra rn rc) a.gl ∧ Below W.heap.size W W' := by
 obtain ⟨⟨p, h1, h2, h3, h4, h5, h6, h7, h8, h9⟩, -⟩ := h
 obtain ⟨mb, v, q1, -⟩ := h1.z.gd
 rw [← h9]
 refine (Gs.all_any q1).mono ?_
 rintro e W' ⟨v', rfl, q2, q3⟩
 obtain ⟨ra, rc, rfl⟩ := own_slice q2
 exact ⟨ra, _, rc, rfl, q2, q3⟩
theorem Wa.cells (h : Wa B G W wb k t a) : W.cell? ⟨wb, 7, none⟩ = some (.int .i64 a.fr) ∧ W.cell? ⟨wb, 4, none⟩ = some (.pointer (some ⟨k.x.bb, 0, none⟩)) ∧ W.cell? ⟨wb, 8, none⟩ = some (.int .i64 a.sd) ∧ W.cell? ⟨wb, 5, none⟩ = some (.pointer (some ⟨k.x.gb, 0, none⟩)) := by
 obtain ⟨⟨p, h1, h2, h3, h4, h5, h6, h7, h8, h9⟩, -⟩ := h
 rw [← h7, ← h8]
 exact ⟨h1.z.cell (j := 7) rfl, h1.z.cell (j := 4) rfl, h1.z.cell (j := 8) rfl, h1.z.cell (j := 5) rfl⟩
end
end Wo
namespace Wo
open Go.RowKit Go.Shelf Go.Maps
open At (bAl cell_blk blk_seen blk_free)
section
variable {B : Nat} {G G' : Own} {W W' : World} {wb : Nat} {k : WK} {t : Nat} {a : AP} {Ad : Nat → Addr}
def zS : Obj := .cells #[.int .i64 0, .int .i64 0, .int .i64 0, .slice none 0 0, .slice none 0 0] 76
set_option maxHeartbeats 6400000 in
set_option maxRecDepth 100000 in
theorem state_any (h : Wa B G W wb k t a) (hrow : ∀ x ∈ a.L, x.2.length ≤ 1000) :
  Calls Tryz.prog 30 #[.pointer (some ⟨wb, 0, none⟩)] W fun e W' => ∃ ba bn bc ra rn rc, e = .returned (.agg #[.int .i64 a.fr, .int .i64 a.n, .int .i64 a.sd, .slice ba bn bc, .slice ra rn rc]) ∧ (∃ E, Bes W.heap.size W' (.slice ba bn bc) E (stL k.x.cs a.L)) ∧ NumO W.heap.size W' (.slice ra rn rc) a.gl ∧ Below W.heap.size W W' := by
 obtain ⟨w1, hw1⟩ : ∃ w1, w1 = (W.alloc (.cells #[.pointer (some ⟨wb, 0, none⟩)] 40)).alloc zS := ⟨_, rfl⟩
 obtain ⟨b1, r1, p1⟩ := Rs.two_blk W #[.pointer (some ⟨wb, 0, none⟩)] #[.int .i64 0, .int .i64 0, .int .i64 0, .slice none 0 0, .slice none 0 0] 40 76
 change Below W.heap.size W ((W.alloc _).alloc zS) at b1
 change ((W.alloc _).alloc zS).heap[W.heap.size]? = _ at r1
 change ((W.alloc _).alloc zS).heap[W.heap.size + 1]? = _ at p1
 rw [← hw1] at b1 r1 p1
 have hz1 : w1.heap.size = W.heap.size + 2 := by rw [hw1]; simp
 have VW := hid (view_any (h.later b1))
 have x0 : w1.cell? ⟨W.heap.size, 0, none⟩ = some (.pointer (some ⟨wb, 0, none⟩)) := cell_blk r1 rfl
 have HH := hid (h.later b1)
 have H0 := hid h
 have HROW := hid hrow
 have HFEW := h.few
 have B1 := hid b1
 have R1 := hid r1
 have P1 := hid p1
 have HZ1 := hid hz1
 have HW1 := hid hw1
 clear h b1 r1 p1 hw1 hz1 hrow
 go_enter Tryz.func30, Tryz.ntmps30
 unfold zS at HW1
 go_upto_region 1 with fail
 rw [← HW1.out]
 go_wp2_with fail
 refine VW.out.mono ?_
 rintro e w2 ⟨bv, rfl, ⟨E0, hE0⟩, hb2⟩
 obtain ⟨ba, bc, rfl⟩ := hE0.slice
 have E0' : Hid (Bes w1.heap.size w2 (.slice ba a.L.length bc) E0 (stM k.x.cs a.L 0)) := hid (by unfold stM stL; rw [List.take_zero, List.map_nil, List.nil_append, List.drop_zero]; exact hE0)
 have B2 := hid hb2
 have hli : (a.L.length : Int) ≤ 64 := by omega
 clear hE0 hb2 VW x0
 go_wp2_with fail
 go_loopg [4, 5, 13] a.L.length (fun gh _ _ q wr => ∃ (j : Nat) (E : List (Int × Value)), j ≤ a.L.length ∧ gh = a.L.length - j ∧ q = .int .i64 (j : Int) ∧ Hid (Bes w1.heap.size wr (.slice ba a.L.length bc) E (stM k.x.cs a.L j)) ∧ Hid (Below w1.heap.size w1 wr))
 case atStart => exact ⟨0, E0, Nat.zero_le _, rfl, rfl, E0'.out, B2.out⟩
 case round =>
  rename World => wr
  obtain ⟨j, E, hj, rfl, rfl, HE, HB⟩ := hrel
  clear E0'
  have y0 : wr.cell? ⟨W.heap.size, 0, none⟩ = some (.pointer (some ⟨wb, 0, none⟩)) := cell_blk (blk_seen HB.out (Nat.le_refl _) R1.out) rfl
  by_cases hlt : j < a.L.length
  ·have hji : (j : Int) < (a.L.length : Int) := by omega
   obtain ⟨⟨id, row⟩, hx⟩ := at_lt a.L j hlt
   have hEl : E.length = a.L.length := by rw [HE.out.len, stM_len]
   obtain ⟨⟨id', pv⟩, hE⟩ := at_lt E j (by omega)
   obtain ⟨ps, hL, hps⟩ := HE.out.at' j id' pv hE
   rw [stM_at hx] at hL
   obtain ⟨rfl, rfl⟩ : id = id' ∧ row = ps := by simpa using hL
   obtain ⟨g, rfl, d0, d1⟩ := HE.out.row.at hE
   obtain ⟨pa, pc, rfl⟩ := hps.slice
   obtain ⟨-, -, cur, hcur, -⟩ := HE.out.row.blk
   obtain ⟨w3, hw3⟩ : ∃ w3, w3 = wr.alloc (.cells #[.int .i64 id, .slice pa row.length pc] 133) := ⟨_, rfl⟩
   have b3 : Below wr.heap.size wr w3 := by rw [hw3]; exact bAl _ _
   have r3 : w3.heap[wr.heap.size]? = some (.cells #[.int .i64 id, .slice pa row.length pc] 133 (0, 0)) := by rw [hw3]; exact heap_alloc_new wr _
   have hown : ∀ y, (Value.slice pa row.length pc).ownBlock = some y → w1.heap.size ≤ y := fun y hy => (hps.lt y hy).1
   have B3 := hid (HB.out.trans (b3.mono HB.out.size))
   have DL := hid (delete_any (HH.out.later B3.out) (hps.later b3) (HROW.out _ (List.mem_of_getElem? hx)) W.heap.size (At.seen b3 (Nat.le_refl _) y0) (fun y hy => ⟨by have := hown y hy; have := HZ1.out; omega, Classical.byContradiction fun q => by have := (HH.out.fin y q).2; have := hown y hy; omega⟩))
   have HX := hid hx
   have HEJ := hid hE
   have HPS := hid (hps.later b3)
   have E3 := hid (HE.out.later b3)
   have HOW := hid hown
   have HW3 := hid hw3
   have z0 : w3.cell? ⟨wr.heap.size, 0, none⟩ = some (.int .i64 id) := cell_blk r3 rfl
   have z1 : w3.cell? ⟨wr.heap.size, 1, none⟩ = some (.slice pa row.length pc) := cell_blk r3 rfl
   have C3 := hid (blk_seen b3 (Nat.le_refl _) hcur)
   clear hx hE hL hps b3 r3 hw3 hown hEl HE hcur
   go_upto_region 7 with fail
   rw [← HW3.out]
   go_wp2_with fail
   refine DL.out.mono ?_
   rintro e w4 ⟨da, dn, dc, rfl, hd, hs4, ho4⟩
   have hng : ¬ (Value.slice pa row.length pc).ownBlock = some g := fun q => by
    obtain ⟨c1, q1⟩ := So.own_blk HPS.out q
    rw [C3.out] at q1
    simp at q1
   have h4 := hs4.at C3.out hng
   have c4 : w4.cell? ⟨g, j * 2 + 1, none⟩ = some (.slice pa row.length pc) := by
    obtain ⟨g', e', -, q⟩ := (E3.out.row.kept hs4 (fun y hy q => hng (by
     have : g = y := by simpa [Value.ownBlock] using hy
     rw [this]; exact q))).at HEJ.out
    obtain rfl : g = g' := by simpa using e'
    exact q
   have f4 := blk_free h4 (j * 2 + 1)
   have PT := hid (E3.out.put HEJ.out (stM_at HX.out) HPS.out hs4 hd ho4)
   rw [stM_next HX.out] at PT
   have B4 : Hid (Below w1.heap.size w1 (w4.setCell ⟨g, j * 2 + 1, none⟩ (.slice da dn dc))) := hid (by
    have s4 := hs4.below (B := w1.heap.size) HOW.out B3.out.size
    have hgl : w1.heap.size ≤ g := (World.ownsRow.lt E3.out.row g rfl).1
    exact (B3.out.trans s4).setCell hgl _)
   clear hd hs4 ho4 hng h4 DL z0 z1 d0 d1 y0
   go_wp2_with fail
   go_roundg (a.L.length - (j + 1))
   case measure => omega
   case rel => exact ⟨j + 1, _, by omega, rfl, by go_num, PT.out, B4.out⟩
  ·have hji : ¬ ((j : Int) < (a.L.length : Int)) := by omega
   obtain rfl : j = a.L.length := by omega
   have hE := HE.out
   rw [stM_end] at hE
   have E5 := hid hE
   clear hE HE y0
   have P5 := hid (blk_seen HB.out (Nat.le_refl _) P1.out)
   have hwb : wb < W.heap.size := World.block_lt_of_cell? W _ H0.out.cells.1
   have hz := HZ1.out
   have hB1 : w1.heap.size ≤ wr.heap.size := HB.out.size
   have HSB : Hid (W.heap.size + 1 < wr.heap.size) := hid (by show _ < _; omega)
   have KK : Hid (∀ w, Below (W.heap.size + 1) wr w → w.cell? ⟨W.heap.size, 0, none⟩ = some (.pointer (some ⟨wb, 0, none⟩)) ∧ w.cell? ⟨wb, 7, none⟩ = some (.int .i64 a.fr) ∧ w.cell? ⟨wb, 4, none⟩ = some (.pointer (some ⟨k.x.bb, 0, none⟩)) ∧ w.cell? ⟨wb, 8, none⟩ = some (.int .i64 a.sd) ∧ w.cell? ⟨wb, 5, none⟩ = some (.pointer (some ⟨k.x.gb, 0, none⟩))) := hid fun w hb => by
    obtain ⟨q1, q2, q3, q4⟩ := (HH.out.later HB.out).cells
    have C : ∀ {b j : Nat} {v : Value}, b < W.heap.size + 1 → wr.cell? ⟨b, j, none⟩ = some v → w.cell? ⟨b, j, none⟩ = some v := fun {b j v} hl hc => (World.cell?_of_block (hb.block b hl)).trans hc
    exact ⟨C (by omega) (cell_blk (blk_seen HB.out (Nat.le_refl _) R1.out) rfl), C (by omega) q1, C (by omega) q2, C (by omega) q3, C (by omega) q4⟩
   have NX : Hid (∀ w, Below wr.heap.size wr w → Calls Tryz.prog 68 #[.pointer (some ⟨k.x.bb, 0, none⟩)] w fun e w' => e = .returned (.int .i64 a.n) ∧ w' = w) := hid fun w hb => wnext_any ((HH.out.later HB.out).later hb)
   have AL : Hid (∀ w, Below wr.heap.size wr w → Calls Tryz.prog 69 #[.pointer (some ⟨k.x.gb, 0, none⟩)] w fun e w' => ∃ ra rn rc, e = .returned (.slice ra rn rc) ∧ Below wr.heap.size wr w' ∧ (w'.cell? ⟨W.heap.size, 0, none⟩ = some (.pointer (some ⟨wb, 0, none⟩)) ∧ w'.cell? ⟨wb, 7, none⟩ = some (.int .i64 a.fr) ∧ w'.cell? ⟨wb, 4, none⟩ = some (.pointer (some ⟨k.x.bb, 0, none⟩)) ∧ w'.cell? ⟨wb, 8, none⟩ = some (.int .i64 a.sd) ∧ w'.cell? ⟨wb, 5, none⟩ = some (.pointer (some ⟨k.x.gb, 0, none⟩))) ∧
     w'.frozen? ⟨W.heap.size + 1, 0, none⟩ = false ∧ w'.frozen? ⟨W.heap.size + 1, 1, none⟩ = false ∧ w'.frozen? ⟨W.heap.size + 1, 2, none⟩ = false ∧ w'.frozen? ⟨W.heap.size + 1, 3, none⟩ = false ∧ w'.frozen? ⟨W.heap.size + 1, 4, none⟩ = false ∧ w'.cell? ⟨W.heap.size + 1, 0, none⟩ = some (.int .i64 0) ∧ w'.cell? ⟨W.heap.size + 1, 1, none⟩ = some (.int .i64 0) ∧ w'.cell? ⟨W.heap.size + 1, 2, none⟩ = some (.int .i64 0) ∧ w'.cell? ⟨W.heap.size + 1, 3, none⟩ = some (.slice none 0 0) ∧ w'.cell? ⟨W.heap.size + 1, 4, none⟩ = some (.slice none 0 0) ∧
     ((put5 w' (W.heap.size + 1) (.int .i64 a.fr) (.int .i64 a.n) (.int .i64 a.sd) (.slice ba a.L.length bc) (.slice ra rn rc)).cell? ⟨W.heap.size, 0, none⟩ = some (.pointer (some ⟨wb, 0, none⟩)) ∧ (put5 w' (W.heap.size + 1) (.int .i64 a.fr) (.int .i64 a.n) (.int .i64 a.sd) (.slice ba a.L.length bc) (.slice ra rn rc)).cell? ⟨wb, 7, none⟩ = some (.int .i64 a.fr) ∧ (put5 w' (W.heap.size + 1) (.int .i64 a.fr) (.int .i64 a.n) (.int .i64 a.sd) (.slice ba a.L.length bc) (.slice ra rn rc)).cell? ⟨wb, 4, none⟩ = some (.pointer (some ⟨k.x.bb, 0, none⟩)) ∧ (put5 w' (W.heap.size + 1) (.int .i64 a.fr) (.int .i64 a.n) (.int .i64 a.sd) (.slice ba a.L.length bc) (.slice ra rn rc)).cell? ⟨wb, 8, none⟩ = some (.int .i64 a.sd) ∧ (put5 w' (W.heap.size + 1) (.int .i64 a.fr) (.int .i64 a.n) (.int .i64 a.sd) (.slice ba a.L.length bc) (.slice ra rn rc)).cell? ⟨wb, 5, none⟩ = some (.pointer (some ⟨k.x.gb, 0, none⟩))) ∧
     (put5 w' (W.heap.size + 1) (.int .i64 a.fr) (.int .i64 a.n) (.int .i64 a.sd) (.slice ba a.L.length bc) (.slice ra rn rc)).cell? ⟨W.heap.size + 1, 0, none⟩ = some (.int .i64 a.fr) ∧ (put5 w' (W.heap.size + 1) (.int .i64 a.fr) (.int .i64 a.n) (.int .i64 a.sd) (.slice ba a.L.length bc) (.slice ra rn rc)).cell? ⟨W.heap.size + 1, 1, none⟩ = some (.int .i64 a.n) ∧ (put5 w' (W.heap.size + 1) (.int .i64 a.fr) (.int .i64 a.n) (.int .i64 a.sd) (.slice ba a.L.length bc) (.slice ra rn rc)).cell? ⟨W.heap.size + 1, 2, none⟩ = some (.int .i64 a.sd) ∧ (put5 w' (W.heap.size + 1) (.int .i64 a.fr) (.int .i64 a.n) (.int .i64 a.sd) (.slice ba a.L.length bc) (.slice ra rn rc)).cell? ⟨W.heap.size + 1, 3, none⟩ = some (.slice ba a.L.length bc) ∧ (put5 w' (W.heap.size + 1) (.int .i64 a.fr) (.int .i64 a.n) (.int .i64 a.sd) (.slice ba a.L.length bc) (.slice ra rn rc)).cell? ⟨W.heap.size + 1, 4, none⟩ = some (.slice ra rn rc) ∧
     Hid ((∃ E, Bes W.heap.size (put5 w' (W.heap.size + 1) (.int .i64 a.fr) (.int .i64 a.n) (.int .i64 a.sd) (.slice ba a.L.length bc) (.slice ra rn rc)) (.slice ba a.L.length bc) E (stL k.x.cs a.L)) ∧ NumO W.heap.size (put5 w' (W.heap.size + 1) (.int .i64 a.fr) (.int .i64 a.n) (.int .i64 a.sd) (.slice ba a.L.length bc) (.slice ra rn rc)) (.slice ra rn rc) a.gl ∧ Below W.heap.size W (put5 w' (W.heap.size + 1) (.int .i64 a.fr) (.int .i64 a.n) (.int .i64 a.sd) (.slice ba a.L.length bc) (.slice ra rn rc)))) := hid fun w hb => by
    refine (wall_any ((HH.out.later HB.out).later hb)).mono ?_
    rintro e w' ⟨ra, rn, rc, rfl, q1, q2⟩
    have q3 : Below wr.heap.size wr w' := hb.trans (q2.mono hb.size)
    have q4 := blk_seen q3 (Nat.le_refl _) P5.out
    have st5 := put5_st w' (W.heap.size + 1) (.int .i64 a.fr) (.int .i64 a.n) (.int .i64 a.sd) (.slice ba a.L.length bc) (.slice ra rn rc)
    have bl5 := put5_blk q4 (.int .i64 a.fr) (.int .i64 a.n) (.int .i64 a.sd) (.slice ba a.L.length bc) (.slice ra rn rc)
    have q5 : Below (W.heap.size + 1) wr w' := q3.mono (by have := HSB.out; omega)
    have q6 := q5.trans (st5.below (B := W.heap.size + 1) (fun y e => by omega) (by have := q5.size; have := HSB.out; omega))
    have q7 : Below w1.heap.size w1 w' := HB.out.trans (q3.mono HB.out.size)
    refine ⟨ra, rn, rc, rfl, q3, KK.out _ q5, blk_free q4 0, blk_free q4 1, blk_free q4 2, blk_free q4 3, blk_free q4 4, cell_blk q4 rfl, cell_blk q4 rfl, cell_blk q4 rfl, cell_blk q4 rfl, cell_blk q4 rfl, KK.out _ q6, cell_blk bl5 rfl, cell_blk bl5 rfl, cell_blk bl5 rfl, cell_blk bl5 rfl, cell_blk bl5 rfl, ?_, ?_, ?_⟩
    ·have e5 := E5.out.later q3
     refine ⟨E, ⟨e5.row.kept st5 (fun y hy q => by have := (World.ownsRow.lt e5.row y hy).1; omega), e5.len, fun i id pv hi => by obtain ⟨ps, g1, g2⟩ := e5.at' i id pv hi; exact ⟨ps, g1, So.own_kept g2 st5 fun y hy q => by have := (g2.lt y hy).1; omega⟩, e5.apart⟩ |> fun z => Bes.lower z (by omega)⟩
    ·have ho : NumO w.heap.size (put5 w' (W.heap.size + 1) (.int .i64 a.fr) (.int .i64 a.n) (.int .i64 a.sd) (.slice ba a.L.length bc) (.slice ra rn rc)) (.slice ra rn rc) a.gl := So.own_kept q1 st5 fun y hy q => by
      have := (World.ownsRow.lt q1 y hy).1
      have := hb.size
      have := HSB.out
      omega
     exact ho.lower (by have := hb.size; omega)
    ·exact B1.out.trans ((q7.mono B1.out.size).trans (st5.below (B := W.heap.size) (fun y e => by omega) (by have := q7.size; omega)))
   have hmm : W.heap.size + 1 ≤ wr.heap.size := by have := HSB.out; omega
   obtain ⟨s0, s1, s2, s3, s4⟩ := KK.out wr ((Below.refl wr.heap.size wr).mono hmm)
   have k0 : Below wr.heap.size wr wr := Below.refl _ _
   have k0d := k0.drew
   have sS := KK.out wr.drew (k0d.mono hmm)
   go_upto_region 9 with fail
   go_region_held3 (fun w => w.cell? ⟨W.heap.size, 0, none⟩ = some (.pointer (some ⟨wb, 0, none⟩)) ∧ w.cell? ⟨wb, 7, none⟩ = some (.int .i64 a.fr) ∧ w.cell? ⟨wb, 4, none⟩ = some (.pointer (some ⟨k.x.bb, 0, none⟩)) ∧ w.cell? ⟨wb, 8, none⟩ = some (.int .i64 a.sd) ∧ w.cell? ⟨wb, 5, none⟩ = some (.pointer (some ⟨k.x.gb, 0, none⟩)))
    (first | (with_reducible assumption) | fail)
    (first
     | (go_at_call 68; refine (NX.out _ (by with_reducible assumption)).mono ?_; rintro e v1 ⟨rfl, rfl⟩)
     | (go_at_call 69; refine (AL.out _ (by with_reducible assumption)).mono ?_; rintro e v2 ⟨ra, rn, rc, rfl, bb2, hS2, f0, f1, f2, f3, f4, y0, y1, y2, y3, y4, hS5, z0, z1, z2, z3, z4, HFIN⟩)
     | fail)
   all_goals
    clear KK NX AL
    go_wp2_with fail
    obtain ⟨g1, g2, g3⟩ := HFIN.out
    exact bodyPost_ret (v := .agg #[.int .i64 a.fr, .int .i64 a.n, .int .i64 a.sd, .slice ba a.L.length bc, .slice ra rn rc]) (by simp [results, Tryz.results30, go_sem, z0, z1, z2, z3, z4]) rfl ⟨_, _, _, _, _, _, rfl, g1, g2, g3⟩
end
end Wo
namespace Wo
open Go.RowKit Go.Shelf Go.Maps
open Rs (Prt PRow)
set_option maxHeartbeats 1600000 in
set_option maxRecDepth 100000 in
theorem equal_parts (W : World) (v u : Value) (l : List Prt) (h : PRow W v l) (h' : PRow W u l) (hl : l.length ≤ 1000) :
  Calls Tryz.prog 115 #[v, u] W fun e W' => e = .returned (.bool true) ∧ Below W.heap.size W W' := by
 have H := hid h
 have H' := hid h'
 obtain ⟨a, c, rfl, -⟩ := h
 obtain ⟨a', c', rfl, -⟩ := h'
 have hli : (l.length : Int) ≤ 1000 := by omega
 have nq := Co.neqP
 go_enter Tryz.func115, Tryz.ntmps115
 go_wp2_with fail
 go_loopg [5, 13] l.length (fun gh _ i wr => ∃ k : Nat, k ≤ l.length ∧ gh = l.length - k ∧ i = .int .i64 (k : Int) ∧ Hid (Below W.heap.size W wr))
 case atStart => exact ⟨0, Nat.zero_le _, rfl, rfl, Below.refl _ _⟩
 case round =>
  rename World => wr
  obtain ⟨k, hk, rfl, rfl, HB⟩ := hrel
  by_cases hlt : k < l.length
  ·have hki : (k : Int) < (l.length : Int) := by omega
   obtain ⟨p, hp⟩ := at_lt l k hlt
   obtain ⟨b, o, rfl, six⟩ := (H.out.later HB.out).at hp
   obtain ⟨b', o', rfl, six'⟩ := (H'.out.later HB.out).at hp
   obtain ⟨d0, d1, d2, d3, d4, d5⟩ := six
   obtain ⟨f0, f1, f2, f3, f4, f5⟩ := six'
   clear hp
   go_wp2_with fail
   go_quiet (fail)
   go_wp2_with fail
   go_roundg (l.length - (k + 1))
   case measure => omega
   case rel => exact ⟨k + 1, by omega, rfl, by go_num, HB.out.trans ((At.drewN_below _ _).mono HB.out.size)⟩
  ·have hki : ¬ ((k : Int) < (l.length : Int)) := by omega
   go_wp2_with fail
   go_ret
   exact ⟨rfl, HB.out⟩
set_option maxHeartbeats 1600000 in
set_option maxRecDepth 100000 in
theorem equal_ints (W : World) (v u : Value) (l : List Int) (h : NumR W v l) (h' : NumR W u l) (hl : l.length ≤ 1000) :
  Calls Tryz.prog 73 #[v, u] W fun e W' => e = .returned (.bool true) ∧ Below W.heap.size W W' := by
 have H := hid h
 have H' := hid h'
 obtain ⟨a, c, rfl, -⟩ := h
 obtain ⟨a', c', rfl, -⟩ := h'
 have hli : (l.length : Int) ≤ 1000 := by omega
 go_enter Tryz.func73, Tryz.ntmps73
 go_wp2_with fail
 go_loopg [5, 13] l.length (fun gh _ i wr => ∃ k : Nat, k ≤ l.length ∧ gh = l.length - k ∧ i = .int .i64 (k : Int) ∧ Hid (Below W.heap.size W wr))
 case atStart => exact ⟨0, Nat.zero_le _, rfl, rfl, Below.refl _ _⟩
 case round =>
  rename World => wr
  obtain ⟨k, hk, rfl, rfl, HB⟩ := hrel
  by_cases hlt : k < l.length
  ·have hki : (k : Int) < (l.length : Int) := by omega
   obtain ⟨x, hx⟩ := at_lt l k hlt
   obtain ⟨g, rfl, d0⟩ : ∃ g, a = some ⟨g, 0, none⟩ ∧ wr.cell? ⟨g, k, none⟩ = some (.int .i64 x) := by
    obtain ⟨a2, c2, hv, hr⟩ := H.out.later HB.out
    obtain ⟨rfl, rfl⟩ : a = a2 ∧ c = c2 := by simpa using hv
    exact hr k x hx
   obtain ⟨g', rfl, d1⟩ : ∃ g, a' = some ⟨g, 0, none⟩ ∧ wr.cell? ⟨g, k, none⟩ = some (.int .i64 x) := by
    obtain ⟨a2, c2, hv, hr⟩ := H'.out.later HB.out
    obtain ⟨rfl, rfl⟩ : a' = a2 ∧ c' = c2 := by simpa using hv
    exact hr k x hx
   clear hx
   go_wp2_with fail
   go_quiet (fail)
   go_wp2_with fail
   go_roundg (l.length - (k + 1))
   case measure => omega
   case rel => exact ⟨k + 1, by omega, rfl, by go_num, HB.out.trans ((At.drewN_below _ _).mono HB.out.size)⟩
  ·have hki : ¬ (k : Int) < (l.length : Int) := by omega
   go_wp2_with fail
   go_ret
   exact ⟨rfl, HB.out⟩
end Wo
namespace Wo
open Go.RowKit Go.Shelf Go.Maps
open At (bAl cell_blk blk_seen)
open Rs (Prt PRow)
set_option maxHeartbeats 1600000 in
theorem same_be (W : World) (id : Int) (v u : Value) (l : List Prt) (h : PRow W v l) (h' : PRow W u l) (hl : l.length ≤ 1000) :
  Calls Tryz.prog 72 #[.agg #[.int .i64 id, v], .agg #[.int .i64 id, u]] W fun e W' => e = .returned (.bool true) ∧ Below W.heap.size W W' := by
 obtain ⟨b2, r2, p2⟩ := Rs.two_blk W #[.int .i64 id, v] #[.int .i64 id, u] 133 133
 obtain ⟨a, c, rfl, -⟩ := show PRow W v l from h
 obtain ⟨a', c', rfl, -⟩ := show PRow W u l from h'
 obtain ⟨w2, hw2⟩ : ∃ w2, w2 = (W.alloc (.cells #[.int .i64 id, .slice a l.length c] 133)).alloc (.cells #[.int .i64 id, .slice a' l.length c'] 133) := ⟨_, rfl⟩
 rw [← hw2] at b2 r2 p2
 have EQ := hid (equal_parts w2 _ _ l (h.later b2) (h'.later b2) hl)
 have y0 : w2.cell? ⟨W.heap.size, 0, none⟩ = some (.int .i64 id) := cell_blk r2 rfl
 have y1 : w2.cell? ⟨W.heap.size, 1, none⟩ = some (.slice a l.length c) := cell_blk r2 rfl
 have z0 : w2.cell? ⟨W.heap.size + 1, 0, none⟩ = some (.int .i64 id) := cell_blk p2 rfl
 have z1 : w2.cell? ⟨W.heap.size + 1, 1, none⟩ = some (.slice a' l.length c') := cell_blk p2 rfl
 have HW2 := hid hw2
 have B2 := hid b2
 clear h h' hw2 b2 r2 p2
 go_enter Tryz.func72, Tryz.ntmps72
 go_upto_region 1 with fail
 rw [← HW2.out]
 go_wp2_with fail
 refine EQ.out.mono ?_
 rintro e w3 ⟨rfl, hb⟩
 have B3 := hid (B2.out.trans (hb.mono B2.out.size))
 clear hb EQ
 go_wp2_with fail
 go_ret
 exact ⟨rfl, B3.out⟩
set_option maxHeartbeats 3200000 in
set_option maxRecDepth 100000 in
theorem equal_bes (W : World) (N N' : Nat) (v u : Value) (E E' : List (Int × Value)) (L : Bgs) (h : Bes N W v E L) (h' : Bes N' W u E' L) (hl : L.length ≤ 1000) (hr : ∀ x ∈ L, x.2.length ≤ 1000) :
  Calls Tryz.prog 71 #[v, u, .func (.func 72) #[] #[]] W fun e W' => e = .returned (.bool true) ∧ Below W.heap.size W W' := by
 have H := hid h
 have H' := hid h'
 obtain ⟨a, c, rfl⟩ := h.slice
 obtain ⟨a', c', rfl⟩ := h'.slice
 have hli : (L.length : Int) ≤ 1000 := by omega
 have HR := hid hr
 have hE1 : Hid (E.length = L.length) := h.len
 have hE2 : Hid (E'.length = L.length) := h'.len
 clear h h' hr
 go_enter Tryz.func71, Tryz.ntmps71
 go_wp2_with fail
 go_loopg [7, 8, 9, 17] L.length (fun gh _ _ _ i wr => ∃ k : Nat, k ≤ L.length ∧ gh = L.length - k ∧ i = .int .i64 (k : Int) ∧ Hid (Below W.heap.size W wr))
 case atStart => exact ⟨0, Nat.zero_le _, rfl, rfl, Below.refl _ _⟩
 case round =>
  rename World => wr
  obtain ⟨k, hk, rfl, rfl, HB⟩ := hrel
  by_cases hlt : k < L.length
  ·have hki : (k : Int) < (L.length : Int) := by omega
   obtain ⟨⟨id1, p1⟩, e1⟩ := at_lt E k (by have := hE1.out; omega)
   obtain ⟨⟨id2, p2⟩, e2⟩ := at_lt E' k (by have := hE2.out; omega)
   have K := H.out.later HB.out
   have K' := H'.out.later HB.out
   obtain ⟨ps, q1, q2⟩ := K.at' k id1 p1 e1
   obtain ⟨ps', q1', q2'⟩ := K'.at' k id2 p2 e2
   obtain ⟨rfl, rfl⟩ : id1 = id2 ∧ ps = ps' := by rw [q1] at q1'; simpa using q1'
   obtain ⟨g, rfl, d0, d1⟩ := K.row.at e1
   obtain ⟨g', rfl, d0', d1'⟩ := K'.row.at e2
   obtain ⟨xa, xc, rfl⟩ := q2.slice
   obtain ⟨xa', xc', rfl⟩ := q2'.slice
   have hrow := HR.out _ (List.mem_of_getElem? q1)
   obtain ⟨b2, r2, p2⟩ := Rs.two_blk wr #[.int .i64 id1, .slice xa ps.length xc] #[.int .i64 id1, .slice xa' ps.length xc'] 133 133
   obtain ⟨w2, hw2⟩ : ∃ w2, w2 = (wr.alloc (.cells #[.int .i64 id1, .slice xa ps.length xc] 133)).alloc (.cells #[.int .i64 id1, .slice xa' ps.length xc'] 133) := ⟨_, rfl⟩
   rw [← hw2] at b2 r2 p2
   have b1 := bAl wr (.cells #[.int .i64 id1, .slice xa ps.length xc] 133)
   have SB := hid (same_be w2 id1 _ _ ps (q2.row.later b2) (q2'.row.later b2) hrow)
   have t0 : (wr.alloc (.cells #[.int .i64 id1, .slice xa ps.length xc] 133)).cell? ⟨g', k * 2, none⟩ = some (.int .i64 id1) := At.seen b1 (Nat.le_refl _) d0'
   have t1 : (wr.alloc (.cells #[.int .i64 id1, .slice xa ps.length xc] 133)).cell? ⟨g', k * 2 + 1, none⟩ = some (.slice xa' ps.length xc') := At.seen b1 (Nat.le_refl _) d1'
   have y0 : w2.cell? ⟨wr.heap.size, 0, none⟩ = some (.int .i64 id1) := cell_blk r2 rfl
   have y1 : w2.cell? ⟨wr.heap.size, 1, none⟩ = some (.slice xa ps.length xc) := cell_blk r2 rfl
   have z0 : w2.cell? ⟨wr.heap.size + 1, 0, none⟩ = some (.int .i64 id1) := cell_blk p2 rfl
   have z1 : w2.cell? ⟨wr.heap.size + 1, 1, none⟩ = some (.slice xa' ps.length xc') := cell_blk p2 rfl
   have HW2 := hid hw2
   have B2 := hid (HB.out.trans (b2.mono HB.out.size))
   clear e1 e2 K K' q1 q1' q2 q2' hrow hw2 b2 r2 p2 b1
   go_upto_region 7 with fail
   rw [← HW2.out]
   go_wp2_with fail
   refine SB.out.mono ?_
   rintro e w3 ⟨rfl, hb⟩
   have B3 := hid (B2.out.trans (hb.mono B2.out.size))
   clear hb SB
   go_wp2_with fail
   go_roundg (L.length - (k + 1))
   case measure => omega
   case rel => exact ⟨k + 1, by omega, rfl, by go_num, B3.out⟩
  ·have hki : ¬ ((k : Int) < (L.length : Int)) := by omega
   go_wp2_with fail
   go_ret
   exact ⟨rfl, HB.out⟩
set_option maxHeartbeats 3200000 in
set_option maxRecDepth 100000 in
theorem same_any (W : World) (N N' : Nat) (fr n sd : Int) (ba ba' ra ra' : Option Addr) (bn bc bn' bc' rn rc rn' rc' : Nat) (E E' : List (Int × Value)) (L : Bgs) (xs : List Int) (h : Bes N W (.slice ba bn bc) E L) (h' : Bes N' W (.slice ba' bn' bc') E' L) (hl : L.length ≤ 1000) (hr : ∀ x ∈ L, x.2.length ≤ 1000) (hx : NumR W (.slice ra rn rc) xs) (hx' : NumR W (.slice ra' rn' rc') xs) (hxl : xs.length ≤ 1000) :
  Calls Tryz.prog 33 #[.agg #[.int .i64 fr, .int .i64 n, .int .i64 sd, .slice ba bn bc, .slice ra rn rc], .agg #[.int .i64 fr, .int .i64 n, .int .i64 sd, .slice ba' bn' bc', .slice ra' rn' rc']] W fun e W' => e = .returned (.bool true) ∧ Below W.heap.size W W' := by
 obtain ⟨b2, r2, p2⟩ := Rs.two_blk W #[.int .i64 fr, .int .i64 n, .int .i64 sd, .slice ba bn bc, .slice ra rn rc] #[.int .i64 fr, .int .i64 n, .int .i64 sd, .slice ba' bn' bc', .slice ra' rn' rc'] 76 76
 obtain ⟨w2, hw2⟩ : ∃ w2, w2 = (W.alloc (.cells #[.int .i64 fr, .int .i64 n, .int .i64 sd, .slice ba bn bc, .slice ra rn rc] 76)).alloc (.cells #[.int .i64 fr, .int .i64 n, .int .i64 sd, .slice ba' bn' bc', .slice ra' rn' rc'] 76) := ⟨_, rfl⟩
 rw [← hw2] at b2 r2 p2
 have EB := hid (equal_bes w2 N N' _ _ E E' L (h.later b2) (h'.later b2) hl hr)
 have EI : Hid (∀ w, Below w2.heap.size w2 w → Calls Tryz.prog 73 #[.slice ra rn rc, .slice ra' rn' rc'] w fun e W' => e = .returned (.bool true) ∧ Below w.heap.size w W') := hid fun w hb => equal_ints w _ _ xs (hx.later (b2.trans (hb.mono b2.size))) (hx'.later (b2.trans (hb.mono b2.size))) hxl
 have y0 : w2.cell? ⟨W.heap.size, 0, none⟩ = some (.int .i64 fr) := cell_blk r2 rfl
 have y1 : w2.cell? ⟨W.heap.size, 1, none⟩ = some (.int .i64 n) := cell_blk r2 rfl
 have y2 : w2.cell? ⟨W.heap.size, 2, none⟩ = some (.int .i64 sd) := cell_blk r2 rfl
 have y3 : w2.cell? ⟨W.heap.size, 3, none⟩ = some (.slice ba bn bc) := cell_blk r2 rfl
 have z0 : w2.cell? ⟨W.heap.size + 1, 0, none⟩ = some (.int .i64 fr) := cell_blk p2 rfl
 have z1 : w2.cell? ⟨W.heap.size + 1, 1, none⟩ = some (.int .i64 n) := cell_blk p2 rfl
 have z2 : w2.cell? ⟨W.heap.size + 1, 2, none⟩ = some (.int .i64 sd) := cell_blk p2 rfl
 have z3 : w2.cell? ⟨W.heap.size + 1, 3, none⟩ = some (.slice ba' bn' bc') := cell_blk p2 rfl
 have HW2 := hid hw2
 have B2 := hid b2
 have R2 := hid r2
 have P2 := hid p2
 clear h h' hr hx hx' hw2 b2 r2 p2
 go_enter Tryz.func33, Tryz.ntmps33
 go_upto_region 1 with fail
 rw [← HW2.out]
 go_wp2_with fail
 refine EB.out.mono ?_
 rintro e w3 ⟨rfl, hb⟩
 have B3 := hid (B2.out.trans (hb.mono B2.out.size))
 have y4 : w3.cell? ⟨W.heap.size, 4, none⟩ = some (.slice ra rn rc) := cell_blk (blk_seen hb (Nat.le_refl _) R2.out) rfl
 have z4 : w3.cell? ⟨W.heap.size + 1, 4, none⟩ = some (.slice ra' rn' rc') := cell_blk (blk_seen hb (Nat.le_refl _) P2.out) rfl
 have E3 := hid (EI.out w3 hb)
 clear hb EB EI y0 y1 y2 y3 z0 z1 z2 z3
 go_wp2_with fail
 refine E3.out.mono ?_
 rintro e w4 ⟨rfl, hb⟩
 have B4 := hid (B3.out.trans (hb.mono B3.out.size))
 clear hb E3
 go_wp2_with fail
 go_ret
 exact ⟨rfl, B4.out⟩
end Wo
namespace Or
open Go.RowKit Go.Shelf Go.Maps
open At (bAl cell_blk blk_seen blk_free)
open Wo (Ed at_es)
section
variable {W : World} {Ad : Nat → Addr}
theorem turn_nil (W : World) : Calls Tryz.prog 19 #[.pointer none] W fun e W' => e = .returned (.tuple #[]) ∧ W' = W := by
 go_enter Tryz.func19, Tryz.ntmps19
 go_wp2_with fail
 go_end0
 exact ⟨rfl, rfl⟩
theorem given_nil (W : World) : Calls Tryz.prog 24 #[.pointer none] W fun e W' => e = .returned (.int .i64 0) ∧ W' = W := by
 go_enter Tryz.func24, Tryz.ntmps24
 go_wp2_with fail
 go_ret
 exact ⟨rfl, rfl⟩
theorem dropped_nil (W : World) : Calls Tryz.prog 25 #[.pointer none] W fun e W' => e = .returned (.int .i64 0) ∧ W' = W := by
 go_enter Tryz.func25, Tryz.ntmps25
 go_wp2_with fail
 go_ret
 exact ⟨rfl, rfl⟩
theorem list_nil (W : World) : Calls Tryz.prog 23 #[.pointer none] W fun e W' => e = .returned (.slice none 0 0) ∧ W' = W := by
 go_enter Tryz.func23, Tryz.ntmps23
 go_wp2_with fail
 go_ret
 exact ⟨rfl, rfl⟩
set_option maxHeartbeats 800000 in
theorem add_nil (hE : Env8 W Ad) (k id m c : Int) : Calls Tryz.prog 15 #[.pointer none, .agg #[.int .i64 k, .int .i64 id, .int .u32 m, .int .i64 c]] W fun e W' => ∃ t q, e = .returned (.iface t q) ∧ Ed Ad W' (.iface t q) 2 1 ∧ Below W.heap.size W W' := by
 obtain ⟨wa, hwa⟩ : ∃ wa, wa = W.alloc (.cells #[.int .i64 k, .int .i64 id, .int .u32 m, .int .i64 c] 48) := ⟨_, rfl⟩
 have ba : Below W.heap.size W wa := by rw [hwa]; exact bAl _ _
 have k2 := (hE.later ba).k2
 have HWA := hid hwa
 have BA := hid ba
 clear hE hwa ba
 go_enter Tryz.func15, Tryz.ntmps15
 go_upto_region 1 with fail
 rw [← HWA.out]
 go_wp2_with fail
 refine (at_es _ (Ed.leaf Ad wa 2 (by decide)) (by decide)).mono ?_
 rintro e w4 ⟨tt, qq, rfl, h1, h2⟩
 have HK := hid h1
 have HB4 := hid (BA.out.trans (h2.mono BA.out.size))
 clear h1 h2
 go_wp2_with fail
 go_ret
 exact ⟨_, _, rfl, HK.out, HB4.out⟩
set_option maxHeartbeats 1600000 in
theorem flush_nil (hE : Env8 W Ad) (op wp : Option Addr) (h : op = none ∨ wp = none) : Calls Tryz.prog 17 #[.pointer op, .pointer wp] W fun e W' => ∃ t q, e = .returned (.tuple #[.agg #[.int .i64 0, .int .i64 0], .iface t q]) ∧ Ed Ad W' (.iface t q) 2 1 ∧ Below W.heap.size W W' := by
 obtain ⟨wa, hwa⟩ : ∃ wa, wa = W.alloc (.cells #[.int .i64 0, .int .i64 0] 55) := ⟨_, rfl⟩
 have ba : Below W.heap.size W wa := by rw [hwa]; exact bAl _ _
 have ra : wa.heap[W.heap.size]? = some (.cells #[.int .i64 0, .int .i64 0] 55 (0, 0)) := by rw [hwa]; exact heap_alloc_new W _
 have k2 := (hE.later ba).k2
 have HWA := hid hwa
 have BA := hid ba
 have RA := hid ra
 have FIN : Hid (∀ w4, Below wa.heap.size wa w4 → w4.cell? ⟨W.heap.size, 0, none⟩ = some (.int .i64 0) ∧ w4.cell? ⟨W.heap.size, 1, none⟩ = some (.int .i64 0) ∧ w4.frozen? ⟨W.heap.size, 0, none⟩ = false ∧ w4.frozen? ⟨W.heap.size, 1, none⟩ = false ∧ Bd.put2 w4 W.heap.size 0 0 = w4) := hid fun w4 hb => by
  have r4 := blk_seen hb (Nat.le_refl _) RA.out
  exact ⟨cell_blk r4 rfl, cell_blk r4 rfl, blk_free r4 0, blk_free r4 1, Bd.put2_same r4⟩
 clear hE hwa ba ra
 cases op with
 | none =>
  go_enter Tryz.func17, Tryz.ntmps17
  go_upto_region 1 with fail
  rw [← HWA.out]
  go_wp2_with fail
  refine (at_es _ (Ed.leaf Ad wa 2 (by decide)) (by decide)).mono ?_
  rintro e w4 ⟨tt, qq, rfl, h1, h2⟩
  have HK := hid h1
  have HB4 := hid (BA.out.trans (h2.mono BA.out.size))
  obtain ⟨z0, z1, f0, f1, hp⟩ := FIN.out w4 h2
  unfold Bd.put2 at hp
  have HP := hid hp
  clear h1 h2 hp
  go_wp2_with fail
  rw [HP.out]
  exact bodyPost_ret (v := .tuple #[.agg #[.int .i64 0, .int .i64 0], .iface tt qq]) (by simp [results, Tryz.results17, go_sem, z0, z1]) rfl ⟨_, _, rfl, HK.out, HB4.out⟩
 | some oa =>
  obtain rfl : wp = none := by rcases h with h | h; cases h; exact h
  go_enter Tryz.func17, Tryz.ntmps17
  go_upto_region 1 with fail
  rw [← HWA.out]
  go_wp2_with fail
  refine (at_es _ (Ed.leaf Ad wa 2 (by decide)) (by decide)).mono ?_
  rintro e w4 ⟨tt, qq, rfl, h1, h2⟩
  have HK := hid h1
  have HB4 := hid (BA.out.trans (h2.mono BA.out.size))
  obtain ⟨z0, z1, f0, f1, hp⟩ := FIN.out w4 h2
  unfold Bd.put2 at hp
  have HP := hid hp
  clear h1 h2 hp
  go_wp2_with fail
  rw [HP.out]
  exact bodyPost_ret (v := .tuple #[.agg #[.int .i64 0, .int .i64 0], .iface tt qq]) (by simp [results, Tryz.results17, go_sem, z0, z1]) rfl ⟨_, _, rfl, HK.out, HB4.out⟩
end
end Or
namespace Or
open Go.RowKit Go.Shelf Go.Maps
open At (St)
open Rs (Prt)
open Wo (WK AP Bes NumO Ev)
theorem fin_lt {B : Nat} {G H : Wo.Own} {W : World} {wb ob : Nat} {kv ov : Value} {k : WK} {t : Nat} {a : AP} {x : OP} (h : Pr B G H W wb ob kv ov k t a x) : ∀ j, (G j ≠ 0 ∨ H j ≠ 0) → j < W.heap.size := fun j hj => by
 rcases hj with q | q
 ·exact (h.wa.fin j q).2
 ·exact (h.oz.fin j q).2
theorem Bs.refl (G H : Wo.Own) (W : World) : Bs G H G H W W := ⟨St.of_below (Below.refl _ _), fun _ _ => rfl, fun _ _ => rfl⟩
theorem Bs.trans {G H G1 H1 G2 H2 : Wo.Own} {W W1 W2 : World} (h : Bs G H G1 H1 W W1) (h' : Bs G1 H1 G2 H2 W1 W2) : Bs G H G2 H2 W W2 :=
 ⟨h.st.trans h'.st fun j hj q => by rw [h.og j hj, h.oh j hj] at q; exact q, fun j hj => (h'.og j (Nat.lt_of_lt_of_le hj h.st.size)).trans (h.og j hj), fun j hj => (h'.oh j (Nat.lt_of_lt_of_le hj h.st.size)).trans (h.oh j hj)⟩
theorem Bs.stay {G H : Wo.Own} {W W' : World} (hb : Below W.heap.size W W') : Bs G H G H W W' := ⟨St.of_below hb, fun _ _ => rfl, fun _ _ => rfl⟩
theorem bes_kept {N : Nat} {W W' : World} {v : Value} {E : List (Int × Value)} {L : Wo.Bgs} {T : Nat → Prop} (h : Bes N W v E L) (hs : St T W W') (hT : ∀ j, T j → j < N) : Bes N W' v E L :=
 ⟨h.row.kept hs fun y hy q => by have := (World.ownsRow.lt h.row y hy).1; have := hT y q; omega, h.len, fun j id pv hj => by
  obtain ⟨ps, q1, q2⟩ := h.at' j id pv hj
  exact ⟨ps, q1, So.own_kept q2 hs fun y hy q => by have := (q2.lt y hy).1; have := hT y q; omega⟩, h.apart⟩
theorem num_kept {N : Nat} {W W' : World} {v : Value} {xs : List Int} {T : Nat → Prop} (h : NumO N W v xs) (hs : St T W W') (hT : ∀ j, T j → j < N) : NumO N W' v xs :=
 So.own_kept h hs fun y hy q => by have := (World.ownsRow.lt h y hy).1; have := hT y q; omega
def WQ (B : Nat) (W w8 : World) (G H8 : Wo.Own) (wb ob : Nat) (kv : Value) (k : WK) (a : AP) (Ls : List Od) (i : Nat) (wr : World) : Prop :=
 ∃ H ov t, Pr B G H wr wb ob kv ov k t a ⟨small3, 64, Ls, (Ls.length : Int), 0⟩ ∧ t ≤ 1 ∧ Ls.length ≤ i ∧ Bs G H8 G H w8 wr ∧ W.heap.size ≤ B ∧ Below W.heap.size W wr
section
variable {B : Nat} {W w8 w w' : World} {G H8 : Wo.Own} {wb ob : Nat} {kv : Value} {k : WK} {a : AP} {Ls : List Od} {i : Nat} {Ad : Nat → Addr}
theorem WQ.later (h : WQ B W w8 G H8 wb ob kv k a Ls i w) (hb : Below w.heap.size w w') : WQ B W w8 G H8 wb ob kv k a Ls i w' := by
 obtain ⟨H, ov, t, h1, h2, h3, h4, h5, h6⟩ := h
 exact ⟨H, ov, t, h1.later hb, h2, h3, h4.trans (Bs.stay hb), h5, h6.trans (hb.mono h6.size)⟩
theorem WQ.bel (h : WQ B W w8 G H8 wb ob kv k a Ls i w) : Below W.heap.size W w := by
 obtain ⟨H, ov, t, h1, h2, h3, h4, h5, h6⟩ := h
 exact h6
theorem WQ.st (h : WQ B W w8 G H8 wb ob kv k a Ls i w) : St (fun j => G j ≠ 0 ∨ H8 j ≠ 0) w8 w := by
 obtain ⟨H, ov, t, h1, h2, h3, h4, h5, h6⟩ := h
 exact h4.st
theorem wq_add (h : WQ B W w8 G H8 wb ob kv k a Ls i w) (hi : i < 60) (hE : Env8 W Ad) (y : Od) (hy : y.ok) :
  Calls Tryz.prog 15 #[.pointer (some ⟨ob, 0, none⟩), .agg #[.int .i64 y.k, .int .i64 y.id, .int .u32 (y.m : Int), .int .i64 y.c]] w (fun e w' => ∃ v, e = .returned v ∧ ∃ Ls', WQ B W w8 G H8 wb ob kv k a Ls' (i + 1) w') := by
 obtain ⟨H, ov, t, h1, h2, h3, h4, h5, h6⟩ := h
 have hEv : Ev B w Ad := ⟨W, hE, h5, h6⟩
 cases hc : y.can 3 with
 | false =>
  refine (add_arg h1.oz hEv.env y hy hc).mono ?_
  rintro e w' ⟨v, rfl, -, k2⟩
  exact ⟨v, rfl, Ls, H, ov, t, h1.later k2, h2, by omega, h4.trans (Bs.stay k2), h5, h6.trans (k2.mono h6.size)⟩
 | true =>
  refine (add_ok h1.oz hEv y hy hc (by show ((Ls.length : Nat) : Int) ≠ 64; omega) (by show Ls.length < 900; omega)).mono ?_
  rintro e w' ⟨rfl, H', ov', ho, hu⟩
  obtain ⟨p, s2⟩ := h1.turn hu ho rfl
  have e : (((Ls ++ [y]).length : Nat) : Int) = (Ls.length : Int) + 1 := by rw [List.length_append, List.length_singleton]; omega
  exact ⟨_, rfl, Ls ++ [y], H', ov', t, by rw [e]; exact p, h2, by rw [List.length_append, List.length_singleton]; omega, h4.trans s2, h5, h6.trans ((s2.bel h1).mono h5)⟩
theorem wq_state (h : WQ B W w8 G H8 wb ob kv k a Ls i w) :
  Calls Tryz.prog 30 #[.pointer (some ⟨wb, 0, none⟩)] w (fun e w' => ∃ ba bn bc ra rn rc, e = .returned (.agg #[.int .i64 a.fr, .int .i64 a.n, .int .i64 a.sd, .slice ba bn bc, .slice ra rn rc]) ∧ (∃ E, Bes w.heap.size w' (.slice ba bn bc) E (Wo.stL small3 a.L)) ∧ NumO w.heap.size w' (.slice ra rn rc) a.gl ∧ Below w.heap.size w w') := by
 obtain ⟨H, ov, t, h1, h2, h3, h4, h5, h6⟩ := h
 have hc : k.x.cs = small3 := h1.cs
 have hr : ∀ x ∈ a.L, x.2.length ≤ 1000 := fun x hx => by
  obtain ⟨j, hj⟩ := List.getElem?_of_mem hx
  obtain ⟨p, i, g, s⟩ := h1.wa.stands (h1.wa.who (id := x.1) (row := x.2) hj).1
  obtain ⟨c, q1, q2, q3⟩ := s.d.z.st
  obtain ⟨n, j, m, own, y, A⟩ := q1.stands s.al (by simp)
  have := Rs.okL_few A.ok.1 q1.okw.1
  rw [s.at'] at this
  omega
 have := Wo.state_any h1.wa hr
 rw [hc] at this
 exact this
theorem wq_list (h : WQ B W w8 G H8 wb ob kv k a Ls i w) : Calls Tryz.prog 23 #[.pointer (some ⟨ob, 0, none⟩)] w (fun e w' => ∃ la lc, e = .returned (.slice la Ls.length lc) ∧ Below w.heap.size w w') := by
 obtain ⟨H, ov, t, h1, -⟩ := h
 refine (list_any h1.oz).mono ?_
 rintro e w' ⟨v, rfl, ho, hb⟩
 obtain ⟨la, lc, rfl⟩ := ho.slice
 exact ⟨la, lc, rfl, hb⟩
theorem wq_given (h : WQ B W w8 G H8 wb ob kv k a Ls i w) : Calls Tryz.prog 24 #[.pointer (some ⟨ob, 0, none⟩)] w (fun e w' => e = .returned (.int .i64 (Ls.length : Int)) ∧ w' = w) := by
 obtain ⟨H, ov, t, h1, -⟩ := h
 exact given_any h1.oz
theorem wq_len (h : WQ B W w8 G H8 wb ob kv k a Ls i w) : Ls.length ≤ i := by
 obtain ⟨H, ov, t, h1, h2, h3, -⟩ := h
 exact h3
theorem wq_other {B2 qb : Nat} {kq : Value} {Hq : Wo.Own} {w2 : World} (h : WQ B W w8 G H8 wb ob kv k a Ls i w) (hb : Below w.heap.size w w2) (ho : Oz B2 Hq w2 qb kq (.slice none 0 0) ⟨small3, 4, [], 0, 0⟩) (h2 : w.heap.size ≤ B2) : Pr B G Hq w2 wb qb kq (.slice none 0 0) k 1 a ⟨small3, 4, [], 0, 0⟩ := by
 obtain ⟨H, ov, t, h1, ht, h3, h4, h5, h6⟩ := h
 exact Pr.made (h1.wa.older ht) hb ho h2 h1.cs
end
def y5 : Od := ⟨1, 0, 3, 0⟩
def wt1 : AP := ⟨[(1, [])], 2, 0, 1, []⟩
def wtP : Prt := ⟨1, 0, 0, 0, 0, 0⟩
def wt3 : AP := ⟨[(2, [awP, wtP])], 3, 0, 1, []⟩
theorem wt_spawn {k : WK} (h1 : k.x.cs = small3) (h2 : k.ws = [2, 1, 1]) (h3 : k.most = 8) : aw0.spawn k [] = (0, wt1, 1) := by
 obtain ⟨x, ws, most⟩ := k
 simp only at h2 h3
 subst h2 h3
 rfl
theorem wt_run {k : WK} (h1 : k.x.cs = small3) (h2 : k.ws = [2, 1, 1]) (h3 : k.most = 8) : runA k wt1 [y2, y5] = ⟨2, 0, wt3⟩ := by
 obtain ⟨⟨sb, bb, gb, kv, cs, ns⟩, ws, most⟩ := k
 simp only at h1 h2 h3
 subst h1 h2 h3
 rfl
theorem wt_look : Wo.look wt3.L 1 = none ∧ Wo.look wt3.L 2 = some [awP, wtP] := ⟨rfl, rfl⟩
theorem y5_ok : y5.ok := ⟨Bd.I64_mid (by decide) (by decide), Co.I64_mid (by decide) (by decide), by decide⟩
end Or
namespace Or
open Go.RowKit Go.Shelf Go.Maps
open At (bAl cell_blk blk_seen)
open Wo (Ed Ev)
theorem ord_at2 {W w : World} {ca : Option Addr} {cc : Nat} {cl : List Od} (h : OrdRow W (.slice ca cl.length cc) cl) (hb : Below W.heap.size W w) {q : Nat} {y : Od} (hy : cl[q]? = some y) : ∃ b o, ca = some ⟨b, o, none⟩ ∧ Fou w b (o + q * 4) y := by
 obtain ⟨a', c', hv, -, hl⟩ := h.later hb
 obtain ⟨rfl, rfl⟩ : ca = a' ∧ cc = c' := by simpa using hv
 rcases hl with h | ⟨b, o, h4, h5⟩
 ·rw [h] at hy; simp at hy
 ·exact ⟨b, o, h4, h5 q y hy⟩
set_option maxHeartbeats 12800000 in
set_option maxRecDepth 100000 in
theorem wait_law (w : World) (Ad : Nat → Addr) (hE : Env8 w Ad) (av : Value) (cl : List Od) (hC : OrdRow w av cl) :
  Calls Tryz.prog 6 #[av] w fun e w' => e = .returned (.bool true) ∧ Below w.heap.size w w' := by
 obtain ⟨ca, cc, rfl, hok, -⟩ := id hC
 have HC := hid hC
 have HOK := hid hok
 have AW := hid (awake_any Ad w hE)
 have HE := hid hE
 clear hE hC hok
 by_cases hlen : cl.length ≤ 60
 ·have hli : (cl.length : Int) ≤ 60 := by omega
  go_enter Tryz.func6, Tryz.ntmps6
  go_wp2_with fail
  refine AW.out.mono ?_
  rintro e w1 ⟨rfl, b1⟩
  have B1 := hid b1
  have S1 := hid (small_any w1)
  clear AW b1
  go_wp2_with fail
  refine S1.out.mono ?_
  rintro e w2 ⟨g, rfl, hr2, hb2⟩
  have B2 := hid (B1.out.trans (hb2.mono B1.out.size))
  have N2 := hid (world_small Ad w2 (HE.out.later B2.out) hr2 8 (by decide))
  clear hr2 hb2 S1
  go_wp2_with fail
  refine N2.out.mono ?_
  rintro e w3 ⟨wb, k, G0, rfl, hw, hb⟩
  have HW := hid hw
  have B3 := hid (B2.out.trans (hb.mono B2.out.size))
  have S3 := hid (small_any w3)
  clear hw hb N2
  go_wp2_with fail
  refine S3.out.mono ?_
  rintro e w4 ⟨g2, rfl, hr4, hb4⟩
  have B34 := hid hb4
  have B4 := hid (B3.out.trans (hb4.mono B3.out.size))
  have N4 := hid (orders_small Ad w4 (HE.out.later B4.out) hr4 64 (by decide) (by decide))
  clear hr4 hb4 S3
  go_wp2_with fail
  refine N4.out.mono ?_
  rintro e w5 ⟨ob, kv, H0, rfl, ho, hb⟩
  have P5 := hid (Pr.made HW.out.1 (B34.out.trans (hb.mono B34.out.size)) ho (by have := B34.out.size; omega) HW.out.2.1)
  have B5 := hid (B4.out.trans (hb.mono B4.out.size))
  have HK : Hid (k.x.cs = small3 ∧ k.ws = [2, 1, 1] ∧ k.most = 8) := HW.out.2
  have HWB : Hid (w.heap.size ≤ w2.heap.size + 1) := hid (by have := B2.out.size; show _ ≤ _; omega)
  generalize w2.heap.size + 1 = B at *
  have EV : Hid (∀ v, Below w.heap.size w v → Ev B v Ad) := hid fun v hb => ⟨w, HE.out, HWB.out, hb⟩
  have N5 := hid (Wo.spawn_any P5.out.wa (EV.out w5 B5.out) (by decide) (v := .slice none 0 0) (l := []) ⟨none, 0, rfl, .inl rfl⟩ (by decide) (by rw [HK.out.2.1]; decide) (fun p hp => by simp at hp) (by decide))
  rw [wt_spawn HK.out.1 HK.out.2.1 HK.out.2.2] at N5
  clear ho hb N4 HW B2 B3 B34 B4
  go_wp2_with fail
  refine N5.out.mono ?_
  rintro e w6 ⟨r, rfl, he, hg⟩
  obtain ⟨G, p6, s6⟩ := P5.out.go hg
  have b6 := B5.out.trans ((s6.bel P5.out).mono HWB.out)
  have W6 : Hid (WQ B w w6 G H0 wb ob kv k wt1 [] 0 w6) := hid ⟨H0, _, _, p6, Nat.le_refl _, Nat.le_refl _, Bs.refl _ _ _, HWB.out, b6⟩
  have P6 := hid p6
  have BW6 := hid b6
  have FL : Hid (∀ j, (G j ≠ 0 ∨ H0 j ≠ 0) → j < w6.heap.size) := hid (fin_lt p6)
  have ST := hid (wq_state W6.out)
  clear he hg p6 s6 b6 N5 P5 B5
  go_wp2_with fail
  refine ST.out.mono ?_
  rintro e w7 ⟨ba, bn, bc, ra, rn, rc, rfl, ⟨E0, hE0⟩, hn0, hb7⟩
  obtain ⟨w8, hw8⟩ : ∃ w8, w8 = w7.alloc (.cells #[.int .i64 wt1.fr, .int .i64 wt1.n, .int .i64 wt1.sd, .slice ba bn bc, .slice ra rn rc] 76) := ⟨_, rfl⟩
  have b8 : Below w7.heap.size w7 w8 := by rw [hw8]; exact bAl _ _
  have r8 : w8.heap[w7.heap.size]? = some (.cells #[.int .i64 wt1.fr, .int .i64 wt1.n, .int .i64 wt1.sd, .slice ba bn bc, .slice ra rn rc] 76 (0, 0)) := by rw [hw8]; exact heap_alloc_new w7 _
  have W8 : Hid (WQ B w w8 G H0 wb ob kv k wt1 [] 0 w8) := hid ⟨H0, _, _, (P6.out.later hb7).later b8, Nat.le_refl _, Nat.le_refl _, Bs.refl _ _ _, HWB.out, (BW6.out.trans (hb7.mono BW6.out.size)).trans (b8.mono (Nat.le_trans BW6.out.size hb7.size))⟩
  have HBE := hid (hE0.later b8)
  have HNU := hid (hn0.later b8)
  have R8 := hid r8
  have Z67 : Hid (w6.heap.size ≤ w7.heap.size) := hid hb7.size
  have B68 := hid (hb7.trans (b8.mono hb7.size))
  have HW8 := hid hw8
  clear hE0 hn0 hb7 b8 r8 hw8 ST W6 P6 BW6
  go_upto_region 11 with fail
  rw [← HW8.out]
  clear HW8
  generalize hsb : w7.heap.size = wsb at *
  go_wp2_with fail
  go_loopg [10] cl.length (fun gh i wr => ∃ (q : Nat) (Ls : List Od), q ≤ cl.length ∧ gh = cl.length - q ∧ i = .int .i64 (q : Int) ∧ Hid (WQ B w w8 G H0 wb ob kv k wt1 Ls q wr))
  case atStart => exact ⟨0, [], Nat.zero_le _, rfl, rfl, W8.out⟩
  case round =>
   rename World => wr
   obtain ⟨q, Ls, hq, rfl, rfl, HQ⟩ := hrel
   clear W8
   by_cases h1 : q < cl.length
   ·have h1i : (q : Int) < (cl.length : Int) := by omega
    obtain ⟨y, hy⟩ := at_lt cl q h1
    have hwf := HOK.out y (List.mem_of_getElem? hy)
    obtain ⟨b, o, rfl, c0, c1, c2, c3⟩ := ord_at2 HC.out HQ.out.bel hy
    have AD := hid (wq_add HQ.out (by omega) HE.out y hwf)
    clear hy hwf
    go_wp2_with fail
    refine AD.out.mono ?_
    rintro e wz ⟨v, rfl, Ls', hw⟩
    have HZ := hid hw
    clear hw AD c0 c1 c2 c3
    go_wp2_with fail
    go_roundg (cl.length - (q + 1))
    case measure => omega
    case rel =>
     exact ⟨q + 1, Ls', by omega, rfl, by go_num, HZ.out⟩
   ·have h1i : ¬ (q : Int) < (cl.length : Int) := by omega
    have hL60 : Ls.length ≤ 60 := by have := wq_len HQ.out; omega
    have hLi : (Ls.length : Int) ≤ 60 := by omega
    have T6 : ∀ j, (G j ≠ 0 ∨ H0 j ≠ 0) → j < w6.heap.size := FL.out
    have BE := hid (bes_kept HBE.out HQ.out.st T6)
    have NU := hid (num_kept HNU.out HQ.out.st T6)
    have RW := hid (HQ.out.st.at R8.out (fun q => by have := T6 _ q; have := Z67.out; omega))
    have KK : Hid (∀ v, Below wr.heap.size wr v → v.cell? ⟨wsb, 0, none⟩ = some (.int .i64 wt1.fr) ∧ v.cell? ⟨wsb, 1, none⟩ = some (.int .i64 wt1.n) ∧ v.cell? ⟨wsb, 2, none⟩ = some (.int .i64 wt1.sd) ∧ v.cell? ⟨wsb, 3, none⟩ = some (.slice ba bn bc) ∧ v.cell? ⟨wsb, 4, none⟩ = some (.slice ra rn rc)) := hid fun v hb => by
     have q := blk_seen hb (Nat.le_refl _) RW.out
     exact ⟨cell_blk q rfl, cell_blk q rfl, cell_blk q rfl, cell_blk q rfl, cell_blk q rfl⟩
    have C1 : Hid (∀ v, Below wr.heap.size wr v → Calls Tryz.prog 30 #[.pointer (some ⟨wb, 0, none⟩)] v fun e v' => ∃ ba' bn' bc' ra' rn' rc', e = .returned (.agg #[.int .i64 wt1.fr, .int .i64 wt1.n, .int .i64 wt1.sd, .slice ba' bn' bc', .slice ra' rn' rc']) ∧ Below wr.heap.size wr v' ∧ Below v'.heap.size v' v' ∧ Hid (∃ N E, Wo.Bes N v' (.slice ba' bn' bc') E (Wo.stL small3 wt1.L) ∧ Wo.NumO N v' (.slice ra' rn' rc') wt1.gl)) := hid fun v hb => by
     refine (wq_state (HQ.out.later hb)).mono ?_
     rintro e v' ⟨ba', bn', bc', ra', rn', rc', rfl, ⟨E, hE⟩, hN, hb'⟩
     exact ⟨ba', bn', bc', ra', rn', rc', rfl, hb.trans (hb'.mono hb.size), Below.refl _ _, _, E, hE, hN⟩
    have C2 : Hid (∀ v1 v ba' bn' bc' ra' rn' rc', Hid (∃ N E, Wo.Bes N v1 (.slice ba' bn' bc') E (Wo.stL small3 wt1.L) ∧ Wo.NumO N v1 (.slice ra' rn' rc') wt1.gl) → Below wr.heap.size wr v1 → Below v1.heap.size v1 v → Calls Tryz.prog 33 #[.agg #[.int .i64 wt1.fr, .int .i64 wt1.n, .int .i64 wt1.sd, .slice ba bn bc, .slice ra rn rc], .agg #[.int .i64 wt1.fr, .int .i64 wt1.n, .int .i64 wt1.sd, .slice ba' bn' bc', .slice ra' rn' rc']] v fun e v' => e = .returned (.bool true) ∧ Below wr.heap.size wr v') := hid fun v1 v ba' bn' bc' ra' rn' rc' he hb1 hb => by
     obtain ⟨N, E, h1, h2⟩ := he.out
     have hb2 := hb1.trans (hb.mono hb1.size)
     refine (Wo.same_any v _ _ wt1.fr wt1.n wt1.sd ba ba' ra ra' bn bc bn' bc' rn rc rn' rc' E0 E (Wo.stL small3 wt1.L) wt1.gl (BE.out.later hb2) (h1.later hb) (by decide) (by decide) ((NU.out.later hb2).num) ((h2.later hb).num) (by decide)).mono ?_
     rintro e v' ⟨rfl, q⟩
     exact ⟨rfl, hb2.trans (q.mono hb2.size)⟩
    have C3 : Hid (∀ v, Below wr.heap.size wr v → Calls Tryz.prog 23 #[.pointer (some ⟨ob, 0, none⟩)] v fun e v' => ∃ la lc, e = .returned (.slice la Ls.length lc) ∧ Below wr.heap.size wr v') := hid fun v hb => by
     refine (wq_list (HQ.out.later hb)).mono ?_
     rintro e v' ⟨la, lc, rfl, q⟩
     exact ⟨la, lc, rfl, hb.trans (q.mono hb.size)⟩
    have C4 : Hid (∀ v, Below wr.heap.size wr v → Calls Tryz.prog 24 #[.pointer (some ⟨ob, 0, none⟩)] v fun e v' => e = .returned (.int .i64 (Ls.length : Int)) ∧ v' = v) := hid fun v hb => wq_given (HQ.out.later hb)
    have k0 : Below wr.heap.size wr wr := Below.refl _ _
    have k0d := k0.drew
    obtain ⟨j0, j1, j2, j3, j4⟩ := KK.out wr k0
    clear BE NU RW HBE HNU R8 FL
    generalize Ls.length = n at *
    go_upto_region 15 with fail
    go_region_held3 (fun v => v.cell? ⟨wsb, 0, none⟩ = some (.int .i64 wt1.fr) ∧ v.cell? ⟨wsb, 1, none⟩ = some (.int .i64 wt1.n) ∧ v.cell? ⟨wsb, 2, none⟩ = some (.int .i64 wt1.sd) ∧ v.cell? ⟨wsb, 3, none⟩ = some (.slice ba bn bc) ∧ v.cell? ⟨wsb, 4, none⟩ = some (.slice ra rn rc))
     (first | (with_reducible assumption) | (refine KK.out _ ?_; with_reducible assumption) | fail)
     (first
      | (go_at_call 30; refine (C1.out _ ?_).mono ?_; (with_reducible assumption); rintro e v1 ⟨ba', bn', bc', ra', rn', rc', rfl, d1, d10, HS1⟩; have d10d := d10.drew)
      | (go_at_call 33; refine (C2.out v1 _ _ _ _ _ _ _ HS1 d1 ?_).mono ?_; (with_reducible assumption); rintro e v2 ⟨rfl, d2⟩)
      | (go_at_call 23; refine (C3.out _ ?_).mono ?_; (with_reducible assumption); rintro e v3 ⟨la, lc, rfl, d3⟩)
      | (go_at_call 24; refine (C4.out _ ?_).mono ?_; (with_reducible assumption); rintro e v4 ⟨rfl, rfl⟩)
      | fail)
    all_goals
     clear KK C1 C2 C3 C4 j0 j1 j2 j3 j4
     have HQ3 := hid (HQ.out.later d3)
     have D3 := hid (HQ.out.bel.trans (d3.mono HQ.out.bel.size))
     have S5 := hid (small_any v4)
     clear HQ
     go_wp2_with fail
     refine S5.out.mono ?_
     rintro e v5 ⟨g5, rfl, hr5, hb5⟩
     have B35 := hid hb5
     have D5 := hid (D3.out.trans (hb5.mono D3.out.size))
     have N6 := hid (orders_small Ad v5 (HE.out.later D5.out) hr5 4 (by decide) (by decide))
     clear hr5 hb5 S5
     go_wp2_with fail
     refine N6.out.mono ?_
     rintro e v6 ⟨qb, kq, Hq, rfl, hq, hb⟩
     have P6 := hid (wq_other HQ3.out (B35.out.trans (hb.mono B35.out.size)) hq (by have := B35.out.size; omega))
     have D6 := hid (D5.out.trans (hb.mono D5.out.size))
     have A6 := hid (add_ok P6.out.oz (EV.out v6 D6.out) y2 y_ok.2.1 (by decide) (by decide) (by decide))
     clear hq hb N6 HQ3 B35
     unfold y2 at A6
     go_wp2_with fail
     refine A6.out.mono ?_
     rintro e v7 ⟨rfl, H7, ov7, o7, u7⟩
     obtain ⟨p7, s7⟩ := P6.out.turn u7 o7 rfl
     have P7 := hid p7
     have D7 := hid (D6.out.trans ((s7.bel P6.out).mono HWB.out))
     have A7 := hid (add_ok p7.oz (EV.out v7 D7.out) y5 y5_ok (by decide) (by decide) (by decide))
     clear o7 u7 p7 s7 A6
     unfold y5 at A7
     go_wp2_with fail
     refine A7.out.mono ?_
     rintro e v8 ⟨rfl, H8, ov8, o8, u8⟩
     obtain ⟨p8, s8⟩ := P7.out.turn u8 o8 rfl
     have P8 := hid p8
     have D8 := hid (D7.out.trans ((s8.bel P7.out).mono HWB.out))
     have hrun := wt_run HK.out.1 HK.out.2.1 HK.out.2.2
     have A8 : Hid (Calls Tryz.prog 17 #[.pointer (some ⟨qb, 0, none⟩), .pointer (some ⟨wb, 0, none⟩)] v8 fun e W' => e = .returned (.tuple #[.agg #[.int .i64 2, .int .i64 0], .nilIface]) ∧ ∃ G' H' ov', Pr B G' H' W' wb qb kq ov' k 3 wt3 ⟨small3, 4, [], 2, 0⟩ ∧ Below w.heap.size w W') := hid (by
      refine (flush_any p8 (EV.out v8 D8.out) (by decide) (by decide)).mono ?_
      rintro e w' ⟨rfl, G', H', ov', q1, q2⟩
      change Pr B G' H' w' wb qb kq ov' k 3 (runA k wt1 [y2, y5]).a ⟨small3, 4, [], 2, 0⟩ at q1
      rw [hrun] at q1
      refine ⟨?_, G', H', ov', q1, D8.out.trans ((q2.bel P8.out).mono HWB.out)⟩
      show Ending.returned (.tuple #[.agg #[.int .i64 ((runA k wt1 [y2, y5]).d : Int), .int .i64 ((runA k wt1 [y2, y5]).f : Int)], .nilIface]) = _
      rw [hrun]
      rfl)
     clear o8 u8 p8 s8 A7 hrun
     go_wp2_with fail
     refine A8.out.mono ?_
     rintro e v9 ⟨rfl, G9, H9, ov9, p9, d9⟩
     obtain ⟨va, hva, ba', ra', ka'⟩ := Wo.blk_new d9 (.cells #[.int .i64 2, .int .i64 0] 55)
     have PA := hid (p9.later ka')
     have DA := hid ba'
     have RA := hid ra'
     have HVA := hid hva
     have ND := hid (Wo.wparts_dead PA.out.wa (HE.out.later DA.out) 1 (Co.I64_mid (by decide) (by decide)) wt_look.1)
     clear p9 d9 ba' ra' ka' hva A8
     go_upto_region 23 with fail
     rw [← HVA.out]
     clear HVA
     generalize v9.heap.size = R9 at *
     go_wp2_with fail
     refine ND.out.mono ?_
     rintro e vb ⟨tD, qD, rfl, hD, hbb⟩
     have PB := hid (PA.out.later hbb)
     have DB := hid (DA.out.trans (hbb.mono DA.out.size))
     have RB := hid (blk_seen hbb (Nat.le_refl _) RA.out)
     have HD := hid hD
     have NP := hid (Wo.wparts_ok PB.out.wa 2 (Co.I64_mid (by decide) (by decide)) wt_look.2)
     clear hD hbb ND PA DA RA
     go_wp2_with fail
     refine NP.out.mono ?_
     rintro e vc ⟨pv, rfl, hp, hbc⟩
     obtain ⟨pa, pc, rfl⟩ := hp.slice
     have DC := hid (DB.out.trans (hbc.mono DB.out.size))
     have RC := hid (blk_seen hbc (Nat.le_refl _) RB.out)
     have HDC := hid (HD.out.later hbc)
     have NF := hid (flush_nil (HE.out.later DC.out) none (some ⟨wb, 0, none⟩) (.inl rfl))
     have NT := hid (turn_nil vc)
     clear hp hbc NP DB RB HD
     go_wp2_with fail
     refine NT.out.mono ?_
     rintro e vt ⟨rfl, rfl⟩
     go_wp2_with fail
     refine NF.out.mono ?_
     rintro e vd ⟨tJ, qJ, rfl, hJ, hbd⟩
     obtain ⟨ve, hve, be, re, ke⟩ := Wo.blk_new hbd (.cells #[.int .i64 0, .int .i64 0] 55)
     have DE := hid (DC.out.trans (be.mono DC.out.size))
     have RE := hid (blk_seen be (Nat.le_refl _) RC.out)
     have HDE := hid (HDC.out.later be)
     have HJE := hid (hJ.later ke)
     have HVE := hid hve
     have NG := hid (flush_nil (HE.out.later DE.out) (some ⟨qb, 0, none⟩) none (.inr rfl))
     clear hJ hbd hve be re ke NF NT DC RC HDC
     go_upto_region 28 with fail
     rw [← HVE.out]
     clear HVE
     generalize vd.heap.size = R10 at *
     go_wp2_with fail
     refine NG.out.mono ?_
     rintro e vf ⟨tK, qK, rfl, hK, hbf⟩
     obtain ⟨vg, hvg, bg, rg, kg⟩ := Wo.blk_new hbf (.cells #[.int .i64 0, .int .i64 0] 55)
     have DG := hid (DE.out.trans (bg.mono DE.out.size))
     have RG := hid (blk_seen bg (Nat.le_refl _) RE.out)
     have HDG := hid (HDE.out.later bg)
     have HJG := hid (HJE.out.later bg)
     have HKG := hid (hK.later kg)
     have HVG := hid hvg
     clear hK hbf hvg bg rg kg NG DE RE HDE HJE
     go_upto_region 29 with fail
     rw [← HVG.out]
     clear HVG
     generalize vf.heap.size = R11 at *
     have KK : Hid (∀ v, Below vg.heap.size vg v → v.cell? ⟨R9, 0, none⟩ = some (.int .i64 2) ∧ v.cell? ⟨2, 0, none⟩ = some (.iface 330 (.pointer (some (Ad 17)))) ∧ v.cell? ⟨3, 0, none⟩ = some (.iface 330 (.pointer (some (Ad 2))))) := hid fun v hb => by
      have q1 := blk_seen hb (Nat.le_refl _) RG.out
      have q3 := HE.out.later (DG.out.trans (hb.mono DG.out.size))
      exact ⟨cell_blk q1 rfl, q3.k17, q3.k2⟩
     have CI : Hid (∀ (K : Nat) (v1 v : World) t q, K ∈ eight → Ed Ad v1 (.iface t q) K 1 → Below vg.heap.size vg v1 → Below v1.heap.size v1 v → Calls Tryz.prog 11 #[.iface t q, .iface 330 (.pointer (some (Ad K)))] v fun e w' => e = .returned (.bool true) ∧ Below vg.heap.size vg w') := hid fun K v1 v t q hK he hb1 hb => by
      have hb5 := hb1.trans (hb.mono hb1.size)
      refine (is_ed (HE.out.later (DG.out.trans (hb5.mono DG.out.size))) (he.later hb) hK (k := K) hK).mono ?_
      rintro e w' ⟨rfl, q⟩
      exact ⟨by simp, hb5.trans (q.mono hb5.size)⟩
     have CD : Hid (∀ v, Below vg.heap.size vg v → Calls Tryz.prog 11 #[.iface tD qD, .iface 330 (.pointer (some (Ad 17)))] v fun e w' => e = .returned (.bool true) ∧ Below vg.heap.size vg w') := hid fun v hb => CI.out 17 vg v _ _ (by decide) HDG.out (Below.refl _ _) hb
     have CJ : Hid (∀ v, Below vg.heap.size vg v → Calls Tryz.prog 11 #[.iface tJ qJ, .iface 330 (.pointer (some (Ad 2)))] v fun e w' => e = .returned (.bool true) ∧ Below vg.heap.size vg w') := hid fun v hb => CI.out 2 vg v _ _ (by decide) HJG.out (Below.refl _ _) hb
     have CK : Hid (∀ v, Below vg.heap.size vg v → Calls Tryz.prog 11 #[.iface tK qK, .iface 330 (.pointer (some (Ad 2)))] v fun e w' => e = .returned (.bool true) ∧ Below vg.heap.size vg w') := hid fun v hb => CI.out 2 vg v _ _ (by decide) HKG.out (Below.refl _ _) hb
     have CA : Hid (∀ v, Below vg.heap.size vg v → Calls Tryz.prog 15 #[.pointer none, .agg #[.int .i64 0, .int .i64 0, .int .u32 0, .int .i64 0]] v fun e w' => ∃ t q, e = .returned (.iface t q) ∧ Below vg.heap.size vg w' ∧ Below w'.heap.size w' w' ∧ Hid (Ed Ad w' (.iface t q) 2 1)) := hid fun v hb => by
      refine (add_nil (HE.out.later (DG.out.trans (hb.mono DG.out.size))) 0 0 0 0).mono ?_
      rintro e w' ⟨t, q, rfl, q1, q2⟩
      exact ⟨t, q, rfl, hb.trans (q2.mono hb.size), Below.refl _ _, q1⟩
     have CI2 : Hid (∀ (v1 v : World) t q, Hid (Ed Ad v1 (.iface t q) 2 1) → Below vg.heap.size vg v1 → Below v1.heap.size v1 v → Calls Tryz.prog 11 #[.iface t q, .iface 330 (.pointer (some (Ad 2)))] v fun e w' => e = .returned (.bool true) ∧ Below vg.heap.size vg w') := hid fun v1 v t q he hb1 hb => CI.out 2 v1 v t q (by decide) he.out hb1 hb
     have l0 : Below vg.heap.size vg vg := Below.refl _ _
     have l0d := l0.drew
     obtain ⟨i0, i1, i2⟩ := KK.out vg l0
     clear RG HDG HJG HKG CI
     go_region_held3 (fun v => v.cell? ⟨R9, 0, none⟩ = some (.int .i64 2) ∧ v.cell? ⟨2, 0, none⟩ = some (.iface 330 (.pointer (some (Ad 17)))) ∧ v.cell? ⟨3, 0, none⟩ = some (.iface 330 (.pointer (some (Ad 2)))))
      (first | (with_reducible assumption) | (refine KK.out _ ?_; with_reducible assumption) | fail)
      (first
       | (go_at_call_of 11 (qD : Value); refine (CD.out _ ?_).mono ?_; (with_reducible assumption); rintro e x1 ⟨rfl, dd1⟩)
       | (go_at_call_of 11 (qJ : Value); refine (CJ.out _ ?_).mono ?_; (with_reducible assumption); rintro e x2 ⟨rfl, dd2⟩)
       | (go_at_call_of 11 (qK : Value); refine (CK.out _ ?_).mono ?_; (with_reducible assumption); rintro e x3 ⟨rfl, dd3⟩)
       | (go_at_call 15; refine (CA.out _ ?_).mono ?_; (with_reducible assumption); rintro e x5 ⟨t5, q5, rfl, dd5, dd50, HE5⟩; have dd50d := dd50.drew)
       | (go_at_call 11; refine (CI2.out x5 _ _ _ HE5 dd5 ?_).mono ?_; (with_reducible assumption); rintro e x6 ⟨rfl, dd6⟩)
       | (go_at_call 24; refine (given_nil _).mono ?_; rintro e x7 ⟨rfl, rfl⟩)
       | (go_at_call 25; refine (dropped_nil _).mono ?_; rintro e x8 ⟨rfl, rfl⟩)
       | (go_at_call 23; refine (list_nil _).mono ?_; rintro e x9 ⟨rfl, rfl⟩)
       | fail)
     all_goals
      clear KK CD CJ CK CA CI2
      go_wp2_with fail
      go_ret
      exact ⟨rfl, DG.out.trans ((by with_reducible assumption : Below vg.heap.size vg _).mono DG.out.size)⟩
 ·have hli : ¬ (cl.length : Int) ≤ 60 := by omega
  go_enter Tryz.func6, Tryz.ntmps6
  go_wp2_with fail
  refine AW.out.mono ?_
  rintro e w1 ⟨rfl, b1⟩
  have B1 := hid b1
  clear AW b1
  go_wp2_with fail
  go_ret
  exact ⟨rfl, B1.out⟩
end Or
end Go.Proofs.YthadfdbkkmmgoaaGreatDoor
