/- Texts in one. -/
import Derived.Test.YthadfdbkkmmgoaaGreatDoorMao
namespace Go.Proofs.YthadfdbkkmmgoaaGreatDoor.Wo
open Go.RowKit Go.Shelf Go.Maps
open Go.Proofs.YthadfdbkkmmgoaaGreatDoor.At (St bAl cell_blk blk_seen blk_free)
open Go.Proofs.YthadfdbkkmmgoaaGreatDoor.Rs (SD Prt Prts PRow)
open Go.Proofs.YthadfdbkkmmgoaaGreatDoor.Sc (Cmp)
open Go.Proofs.YthadfdbkkmmgoaaGreatDoor.Co (I64)
/-- Beings with what is rolled back alone. -/
def stL (cs : List Cmp) (L : Bgs) : Bgs := L.map fun x => (x.1, x.2.filter (stays cs))
/-- The first j ones are so already. -/
def stM (cs : List Cmp) (L : Bgs) (j : Nat) : Bgs := stL cs (L.take j) ++ L.drop j
theorem stM_len (cs : List Cmp) (L : Bgs) (j : Nat) : (stM cs L j).length = L.length := by unfold stM stL; rw [List.length_append, List.length_map, ← List.length_append, List.take_append_drop]
theorem stM_at {cs : List Cmp} {L : Bgs} {j : Nat} {x : Int × List Prt} (h : L[j]? = some x) : (stM cs L j)[j]? = some x := by
  have hl := (List.getElem?_eq_some_iff.1 h).1
  unfold stM stL
  rw [List.getElem?_append_right (by simp; omega), List.length_map, List.length_take, Nat.min_eq_left (by omega), Nat.sub_self, List.getElem?_drop]
  exact h
theorem stM_next {cs : List Cmp} {L : Bgs} {j : Nat} {id : Int} {row : List Prt} (h : L[j]? = some (id, row)) : (stM cs L j).set j (id, row.filter (stays cs)) = stM cs L (j + 1) := by
  obtain ⟨hl, e⟩ := List.getElem?_eq_some_iff.1 h
  unfold stM stL
  rw [List.set_append_right _ _ (by simp; omega), List.length_map, List.length_take, Nat.min_eq_left (by omega), Nat.sub_self, List.drop_eq_getElem_cons hl, List.set_cons_zero, List.take_succ_eq_append_getElem hl, List.map_append, e]
  simp
theorem stM_end (cs : List Cmp) (L : Bgs) : stM cs L L.length = stL cs L := by unfold stM; rw [List.take_length, List.drop_length, List.append_nil]
/-- The parts of one being are others. -/
theorem Bes.put {N : Nat} {W w' : World} {g n c j : Nat} {E : List (Int × Value)} {L : Bgs} {id : Int} {pv pv' : Value} {row row' : List Prt} (h : Bes N W (.slice (some ⟨g, 0, none⟩) n c) E L) (hj : E[j]? = some (id, pv)) (hL : L[j]? = some (id, row)) (hp : Prts N W pv row) (hs : St (fun x => pv.ownBlock = some x) W w') (hp' : Prts N w' pv' row') (ho : ∀ y, pv'.ownBlock = some y → pv.ownBlock = some y) :
    Bes N (w'.setCell ⟨g, j * 2 + 1, none⟩ pv') (.slice (some ⟨g, 0, none⟩) n c) (E.set j (id, pv')) (L.set j (id, row')) := by
  have hg : ∀ {N2 : Nat} {w : World} {u : Value} {ps : List Prt}, Prts N2 w u ps → (∃ cur, w.heap[g]? = some (.cells cur 133 (0, 0))) → ∀ y, u.ownBlock = some y → y ≠ g := fun {N2 w u ps} hu hc y hy e => by
    obtain ⟨c1, q1⟩ := So.own_blk hu hy
    obtain ⟨c2, q2⟩ := hc
    rw [e, q2] at q1
    simp at q1
  obtain ⟨-, -, cur, hcur, -⟩ := h.row.blk
  have hng := fun y hy => hg hp ⟨cur, hcur⟩ y hy
  have hrow : BeR N w' (.slice (some ⟨g, 0, none⟩) n c) E := h.row.kept hs fun y hy q => hng y q (by simpa [Value.ownBlock] using hy.symm)
  have hcur' : w'.heap[g]? = some (.cells cur 133 (0, 0)) := hs.at hcur fun q => hng g q rfl
  have hst : St (fun k => k = g) w' (w'.setCell ⟨g, j * 2 + 1, none⟩ pv') := St.setCell _ rfl
  have hjl := (List.getElem?_eq_some_iff.1 hj).1
  refine ⟨hrow.set hj pv', by rw [List.length_set, List.length_set]; exact h.len, fun i id2 pv2 hi => ?_, ?_⟩
  · by_cases e : i = j
    · subst e
      rw [List.getElem?_set_self hjl] at hi
      obtain ⟨rfl, rfl⟩ : id = id2 ∧ pv' = pv2 := by simpa using hi
      refine ⟨row', by rw [List.getElem?_set_self (by rw [← h.len]; exact hjl)], So.own_kept hp' hst fun y hy => hng y (ho y hy)⟩
    · rw [List.getElem?_set_ne (fun q => e q.symm)] at hi
      obtain ⟨ps, q1, q2⟩ := h.at' i id2 pv2 hi
      refine ⟨ps, by rw [List.getElem?_set_ne (fun q => e q.symm)]; exact q1, ?_⟩
      refine So.own_kept (So.own_kept q2 hs fun y hy q => ?_) hst fun y hy => hg q2 ⟨cur, hcur⟩ y hy
      obtain ⟨hil, ei⟩ := List.getElem?_eq_some_iff.1 hi
      obtain ⟨hjl, ej⟩ := List.getElem?_eq_some_iff.1 hj
      rcases Nat.lt_or_gt_of_ne e with lt | lt
      · have := List.pairwise_iff_getElem.1 h.apart i j hil hjl lt
        rw [ei, ej] at this
        exact this y hy q
      · have := List.pairwise_iff_getElem.1 h.apart j i hjl hil lt
        rw [ei, ej] at this
        exact this y q hy
  · rw [List.pairwise_iff_getElem]
    intro i1 i2 h1 h2 hlt k hk hk2
    rw [List.length_set] at h1 h2
    have A := List.pairwise_iff_getElem.1 h.apart i1 i2 h1 h2 hlt
    obtain ⟨hjl2, ej⟩ := List.getElem?_eq_some_iff.1 hj
    rw [List.getElem_set] at hk hk2
    split at hk
    · rename_i e1
      split at hk2
      · omega
      · subst e1
        rw [ej] at A
        exact A k (ho k hk) hk2
    · split at hk2
      · rename_i e2
        subst e2
        rw [ej] at A
        exact A k hk (ho k hk2)
      · exact A k hk hk2
/-- Five cells of a block written. -/
abbrev put5 (W : World) (b : Nat) (v0 v1 v2 v3 v4 : Value) : World := ((((W.setCell ⟨b, 0, none⟩ v0).setCell ⟨b, 1, none⟩ v1).setCell ⟨b, 2, none⟩ v2).setCell ⟨b, 3, none⟩ v3).setCell ⟨b, 4, none⟩ v4
theorem put5_blk {W : World} {b : Nat} {a0 a1 a2 a3 a4 : Value} {e : TypeId} (h : W.heap[b]? = some (.cells #[a0, a1, a2, a3, a4] e (0, 0))) (v0 v1 v2 v3 v4 : Value) : (put5 W b v0 v1 v2 v3 v4).heap[b]? = some (.cells #[v0, v1, v2, v3, v4] e (0, 0)) := by
  have h1 := heap_setCell_same W b 0 _ e v0 h
  have h2 := heap_setCell_same _ b 1 _ e v1 h1
  have h3 := heap_setCell_same _ b 2 _ e v2 h2
  have h4 := heap_setCell_same _ b 3 _ e v3 h3
  have h5 := heap_setCell_same _ b 4 _ e v4 h4
  simpa using h5
theorem put5_st (W : World) (b : Nat) (v0 v1 v2 v3 v4 : Value) : St (fun k => k = b) W (put5 W b v0 v1 v2 v3 v4) := by
  have c := fun (w : World) (j : Nat) (v : Value) => St.setCell (S := fun k => k = b) (a := w) (p := ⟨b, j, none⟩) v rfl
  exact ((((c W 0 _).trans (c _ 1 _) fun _ _ q => q).trans (c _ 2 _) fun _ _ q => q).trans (c _ 3 _) fun _ _ q => q).trans (c _ 4 _) fun _ _ q => q
section
variable {B : Nat} {G G' : Own} {W W' : World} {wb : Nat} {k : WK} {t : Nat} {a : AP} {Ad : Nat → Addr}
theorem wnext_any (h : Wa B G W wb k t a) : Calls Tryz.prog 68 #[.pointer (some ⟨k.x.bb, 0, none⟩)] W fun e W' => e = .returned (.int .i64 a.n) ∧ W' = W := by
  obtain ⟨⟨p, h1, h2, h3, h4, h5, h6, -⟩, -⟩ := h
  obtain ⟨ob, nb, q1, -⟩ := h1.z.bd
  rw [← h6]
  exact Bd.next_any q1
theorem wall_any (h : Wa B G W wb k t a) : Calls Tryz.prog 69 #[.pointer (some ⟨k.x.gb, 0, none⟩)] W fun e W' => ∃ ra rn rc, e = .returned (.slice ra rn rc) ∧ NumO W.heap.size W' (.slice ra rn rc) a.gl ∧ Below W.heap.size W W' := by
  obtain ⟨⟨p, h1, h2, h3, h4, h5, h6, h7, h8, h9⟩, -⟩ := h
  obtain ⟨mb, v, q1, -⟩ := h1.z.gd
  rw [← h9]
  refine (Gs.all_any q1).mono ?_
  rintro e W' ⟨v', rfl, q2, q3⟩
  obtain ⟨ra, rc, rfl⟩ := own_slice q2
  exact ⟨ra, _, rc, rfl, q2, q3⟩
theorem Wa.cells (h : Wa B G W wb k t a) : W.cell? ⟨wb, 7, none⟩ = some (.int .i64 a.fr) ∧ W.cell? ⟨wb, 4, none⟩ = some (.pointer (some ⟨k.x.bb, 0, none⟩)) ∧ W.cell? ⟨wb, 8, none⟩ = some (.int .i64 a.sd) ∧ W.cell? ⟨wb, 5, none⟩ = some (.pointer (some ⟨k.x.gb, 0, none⟩)) := by
  obtain ⟨⟨p, h1, h2, h3, h4, h5, h6, h7, h8, h9⟩, -⟩ := h
  rw [← h7, ← h8]
  exact ⟨h1.z.cell (j := 7) rfl, h1.z.cell (j := 4) rfl, h1.z.cell (j := 8) rfl, h1.z.cell (j := 5) rfl⟩
end
end Go.Proofs.YthadfdbkkmmgoaaGreatDoor.Wo
namespace Go.Proofs.YthadfdbkkmmgoaaGreatDoor.Wo
open Go.RowKit Go.Shelf Go.Maps
open Go.Proofs.YthadfdbkkmmgoaaGreatDoor.At (St bAl cell_blk blk_seen blk_free)
open Go.Proofs.YthadfdbkkmmgoaaGreatDoor.Rs (SD Prt Prts PRow)
open Go.Proofs.YthadfdbkkmmgoaaGreatDoor.Sc (Cmp)
open Go.Proofs.YthadfdbkkmmgoaaGreatDoor.Co (I64)
section
variable {B : Nat} {G G' : Own} {W W' : World} {wb : Nat} {k : WK} {t : Nat} {a : AP} {Ad : Nat → Addr}
def zS : Obj := .cells #[.int .i64 0, .int .i64 0, .int .i64 0, .slice none 0 0, .slice none 0 0] 76
set_option maxHeartbeats 6400000 in
set_option maxRecDepth 100000 in
theorem state_any (h : Wa B G W wb k t a) (hrow : ∀ x ∈ a.L, x.2.length ≤ 1000) :
    Calls Tryz.prog 30 #[.pointer (some ⟨wb, 0, none⟩)] W fun e W' => ∃ ba bn bc ra rn rc, e = .returned (.agg #[.int .i64 a.fr, .int .i64 a.n, .int .i64 a.sd, .slice ba bn bc, .slice ra rn rc]) ∧ (∃ E, Bes W.heap.size W' (.slice ba bn bc) E (stL k.x.cs a.L)) ∧ NumO W.heap.size W' (.slice ra rn rc) a.gl ∧ Below W.heap.size W W' := by
  obtain ⟨w1, hw1⟩ : ∃ w1, w1 = (W.alloc (.cells #[.pointer (some ⟨wb, 0, none⟩)] 40)).alloc zS := ⟨_, rfl⟩
  obtain ⟨b1, r1, p1⟩ := Rs.two_blk W #[.pointer (some ⟨wb, 0, none⟩)] #[.int .i64 0, .int .i64 0, .int .i64 0, .slice none 0 0, .slice none 0 0] 40 76
  change Below W.heap.size W ((W.alloc _).alloc zS) at b1
  change ((W.alloc _).alloc zS).heap[W.heap.size]? = _ at r1
  change ((W.alloc _).alloc zS).heap[W.heap.size + 1]? = _ at p1
  rw [← hw1] at b1 r1 p1
  have hz1 : w1.heap.size = W.heap.size + 2 := by rw [hw1]; simp
  have VW := hid (view_any (h.later b1))
  have x0 : w1.cell? ⟨W.heap.size, 0, none⟩ = some (.pointer (some ⟨wb, 0, none⟩)) := cell_blk r1 rfl
  have HH := hid (h.later b1)
  have H0 := hid h
  have HROW := hid hrow
  have HFEW := h.few
  have B1 := hid b1
  have R1 := hid r1
  have P1 := hid p1
  have HZ1 := hid hz1
  have HW1 := hid hw1
  clear h b1 r1 p1 hw1 hz1 hrow
  go_enter Tryz.func30, Tryz.ntmps30
  unfold zS at HW1
  go_upto_region 1 with fail
  rw [← HW1.out]
  go_wp2_with fail
  refine VW.out.mono ?_
  rintro e w2 ⟨bv, rfl, ⟨E0, hE0⟩, hb2⟩
  obtain ⟨ba, bc, rfl⟩ := hE0.slice
  have E0' : Hid (Bes w1.heap.size w2 (.slice ba a.L.length bc) E0 (stM k.x.cs a.L 0)) := hid (by unfold stM stL; rw [List.take_zero, List.map_nil, List.nil_append, List.drop_zero]; exact hE0)
  have B2 := hid hb2
  have hli : (a.L.length : Int) ≤ 64 := by omega
  clear hE0 hb2 VW x0
  go_wp2_with fail
  go_loopg [4, 5, 13] a.L.length (fun gh _ _ q wr => ∃ (j : Nat) (E : List (Int × Value)), j ≤ a.L.length ∧ gh = a.L.length - j ∧ q = .int .i64 (j : Int) ∧ Hid (Bes w1.heap.size wr (.slice ba a.L.length bc) E (stM k.x.cs a.L j)) ∧ Hid (Below w1.heap.size w1 wr))
  case atStart => exact ⟨0, E0, Nat.zero_le _, rfl, rfl, E0'.out, B2.out⟩
  case round =>
    rename World => wr
    obtain ⟨j, E, hj, rfl, rfl, HE, HB⟩ := hrel
    clear E0'
    have y0 : wr.cell? ⟨W.heap.size, 0, none⟩ = some (.pointer (some ⟨wb, 0, none⟩)) := cell_blk (blk_seen HB.out (Nat.le_refl _) R1.out) rfl
    by_cases hlt : j < a.L.length
    · have hji : (j : Int) < (a.L.length : Int) := by omega
      obtain ⟨⟨id, row⟩, hx⟩ := at_lt a.L j hlt
      have hEl : E.length = a.L.length := by rw [HE.out.len, stM_len]
      obtain ⟨⟨id', pv⟩, hE⟩ := at_lt E j (by omega)
      obtain ⟨ps, hL, hps⟩ := HE.out.at' j id' pv hE
      rw [stM_at hx] at hL
      obtain ⟨rfl, rfl⟩ : id = id' ∧ row = ps := by simpa using hL
      obtain ⟨g, rfl, d0, d1⟩ := HE.out.row.at hE
      obtain ⟨pa, pc, rfl⟩ := hps.slice
      obtain ⟨-, -, cur, hcur, -⟩ := HE.out.row.blk
      obtain ⟨w3, hw3⟩ : ∃ w3, w3 = wr.alloc (.cells #[.int .i64 id, .slice pa row.length pc] 133) := ⟨_, rfl⟩
      have b3 : Below wr.heap.size wr w3 := by rw [hw3]; exact bAl _ _
      have r3 : w3.heap[wr.heap.size]? = some (.cells #[.int .i64 id, .slice pa row.length pc] 133 (0, 0)) := by rw [hw3]; exact heap_alloc_new wr _
      have hown : ∀ y, (Value.slice pa row.length pc).ownBlock = some y → w1.heap.size ≤ y := fun y hy => (hps.lt y hy).1
      have B3 := hid (HB.out.trans (b3.mono HB.out.size))
      have DL := hid (delete_any (HH.out.later B3.out) (hps.later b3) (HROW.out _ (List.mem_of_getElem? hx)) W.heap.size (At.seen b3 (Nat.le_refl _) y0) (fun y hy => ⟨by have := hown y hy; have := HZ1.out; omega, Classical.byContradiction fun q => by have := (HH.out.fin y q).2; have := hown y hy; omega⟩))
      have HX := hid hx
      have HEJ := hid hE
      have HPS := hid (hps.later b3)
      have E3 := hid (HE.out.later b3)
      have HOW := hid hown
      have HW3 := hid hw3
      have z0 : w3.cell? ⟨wr.heap.size, 0, none⟩ = some (.int .i64 id) := cell_blk r3 rfl
      have z1 : w3.cell? ⟨wr.heap.size, 1, none⟩ = some (.slice pa row.length pc) := cell_blk r3 rfl
      have C3 := hid (blk_seen b3 (Nat.le_refl _) hcur)
      clear hx hE hL hps b3 r3 hw3 hown hEl HE hcur
      go_upto_region 7 with fail
      rw [← HW3.out]
      go_wp2_with fail
      refine DL.out.mono ?_
      rintro e w4 ⟨da, dn, dc, rfl, hd, hs4, ho4⟩
      have hng : ¬ (Value.slice pa row.length pc).ownBlock = some g := fun q => by
        obtain ⟨c1, q1⟩ := So.own_blk HPS.out q
        rw [C3.out] at q1
        simp at q1
      have h4 := hs4.at C3.out hng
      have c4 : w4.cell? ⟨g, j * 2 + 1, none⟩ = some (.slice pa row.length pc) := by
        obtain ⟨g', e', -, q⟩ := (E3.out.row.kept hs4 (fun y hy q => hng (by
          have : g = y := by simpa [Value.ownBlock] using hy
          rw [this]; exact q))).at HEJ.out
        obtain rfl : g = g' := by simpa using e'
        exact q
      have f4 := blk_free h4 (j * 2 + 1)
      have PT := hid (E3.out.put HEJ.out (stM_at HX.out) HPS.out hs4 hd ho4)
      rw [stM_next HX.out] at PT
      have B4 : Hid (Below w1.heap.size w1 (w4.setCell ⟨g, j * 2 + 1, none⟩ (.slice da dn dc))) := hid (by
        have s4 := hs4.below (B := w1.heap.size) HOW.out B3.out.size
        have hgl : w1.heap.size ≤ g := (World.ownsRow.lt E3.out.row g rfl).1
        exact (B3.out.trans s4).setCell hgl _)
      clear hd hs4 ho4 hng h4 DL z0 z1 d0 d1 y0
      go_wp2_with fail
      go_roundg (a.L.length - (j + 1))
      case measure => omega
      case rel => exact ⟨j + 1, _, by omega, rfl, by go_num, PT.out, B4.out⟩
    · have hji : ¬ ((j : Int) < (a.L.length : Int)) := by omega
      obtain rfl : j = a.L.length := by omega
      have hE := HE.out
      rw [stM_end] at hE
      have E5 := hid hE
      clear hE HE y0
      have P5 := hid (blk_seen HB.out (Nat.le_refl _) P1.out)
      have hwb : wb < W.heap.size := World.block_lt_of_cell? W _ H0.out.cells.1
      have hz := HZ1.out
      have hB1 : w1.heap.size ≤ wr.heap.size := HB.out.size
      have HSB : Hid (W.heap.size + 1 < wr.heap.size) := hid (by show _ < _; omega)
      have KK : Hid (∀ w, Below (W.heap.size + 1) wr w → w.cell? ⟨W.heap.size, 0, none⟩ = some (.pointer (some ⟨wb, 0, none⟩)) ∧ w.cell? ⟨wb, 7, none⟩ = some (.int .i64 a.fr) ∧ w.cell? ⟨wb, 4, none⟩ = some (.pointer (some ⟨k.x.bb, 0, none⟩)) ∧ w.cell? ⟨wb, 8, none⟩ = some (.int .i64 a.sd) ∧ w.cell? ⟨wb, 5, none⟩ = some (.pointer (some ⟨k.x.gb, 0, none⟩))) := hid fun w hb => by
        obtain ⟨q1, q2, q3, q4⟩ := (HH.out.later HB.out).cells
        have C : ∀ {b j : Nat} {v : Value}, b < W.heap.size + 1 → wr.cell? ⟨b, j, none⟩ = some v → w.cell? ⟨b, j, none⟩ = some v := fun {b j v} hl hc => (World.cell?_of_block (hb.block b hl)).trans hc
        exact ⟨C (by omega) (cell_blk (blk_seen HB.out (Nat.le_refl _) R1.out) rfl), C (by omega) q1, C (by omega) q2, C (by omega) q3, C (by omega) q4⟩
      have NX : Hid (∀ w, Below wr.heap.size wr w → Calls Tryz.prog 68 #[.pointer (some ⟨k.x.bb, 0, none⟩)] w fun e w' => e = .returned (.int .i64 a.n) ∧ w' = w) := hid fun w hb => wnext_any ((HH.out.later HB.out).later hb)
      have AL : Hid (∀ w, Below wr.heap.size wr w → Calls Tryz.prog 69 #[.pointer (some ⟨k.x.gb, 0, none⟩)] w fun e w' => ∃ ra rn rc, e = .returned (.slice ra rn rc) ∧ Below wr.heap.size wr w' ∧ (w'.cell? ⟨W.heap.size, 0, none⟩ = some (.pointer (some ⟨wb, 0, none⟩)) ∧ w'.cell? ⟨wb, 7, none⟩ = some (.int .i64 a.fr) ∧ w'.cell? ⟨wb, 4, none⟩ = some (.pointer (some ⟨k.x.bb, 0, none⟩)) ∧ w'.cell? ⟨wb, 8, none⟩ = some (.int .i64 a.sd) ∧ w'.cell? ⟨wb, 5, none⟩ = some (.pointer (some ⟨k.x.gb, 0, none⟩))) ∧
          w'.frozen? ⟨W.heap.size + 1, 0, none⟩ = false ∧ w'.frozen? ⟨W.heap.size + 1, 1, none⟩ = false ∧ w'.frozen? ⟨W.heap.size + 1, 2, none⟩ = false ∧ w'.frozen? ⟨W.heap.size + 1, 3, none⟩ = false ∧ w'.frozen? ⟨W.heap.size + 1, 4, none⟩ = false ∧ w'.cell? ⟨W.heap.size + 1, 0, none⟩ = some (.int .i64 0) ∧ w'.cell? ⟨W.heap.size + 1, 1, none⟩ = some (.int .i64 0) ∧ w'.cell? ⟨W.heap.size + 1, 2, none⟩ = some (.int .i64 0) ∧ w'.cell? ⟨W.heap.size + 1, 3, none⟩ = some (.slice none 0 0) ∧ w'.cell? ⟨W.heap.size + 1, 4, none⟩ = some (.slice none 0 0) ∧
          ((put5 w' (W.heap.size + 1) (.int .i64 a.fr) (.int .i64 a.n) (.int .i64 a.sd) (.slice ba a.L.length bc) (.slice ra rn rc)).cell? ⟨W.heap.size, 0, none⟩ = some (.pointer (some ⟨wb, 0, none⟩)) ∧ (put5 w' (W.heap.size + 1) (.int .i64 a.fr) (.int .i64 a.n) (.int .i64 a.sd) (.slice ba a.L.length bc) (.slice ra rn rc)).cell? ⟨wb, 7, none⟩ = some (.int .i64 a.fr) ∧ (put5 w' (W.heap.size + 1) (.int .i64 a.fr) (.int .i64 a.n) (.int .i64 a.sd) (.slice ba a.L.length bc) (.slice ra rn rc)).cell? ⟨wb, 4, none⟩ = some (.pointer (some ⟨k.x.bb, 0, none⟩)) ∧ (put5 w' (W.heap.size + 1) (.int .i64 a.fr) (.int .i64 a.n) (.int .i64 a.sd) (.slice ba a.L.length bc) (.slice ra rn rc)).cell? ⟨wb, 8, none⟩ = some (.int .i64 a.sd) ∧ (put5 w' (W.heap.size + 1) (.int .i64 a.fr) (.int .i64 a.n) (.int .i64 a.sd) (.slice ba a.L.length bc) (.slice ra rn rc)).cell? ⟨wb, 5, none⟩ = some (.pointer (some ⟨k.x.gb, 0, none⟩))) ∧
          (put5 w' (W.heap.size + 1) (.int .i64 a.fr) (.int .i64 a.n) (.int .i64 a.sd) (.slice ba a.L.length bc) (.slice ra rn rc)).cell? ⟨W.heap.size + 1, 0, none⟩ = some (.int .i64 a.fr) ∧ (put5 w' (W.heap.size + 1) (.int .i64 a.fr) (.int .i64 a.n) (.int .i64 a.sd) (.slice ba a.L.length bc) (.slice ra rn rc)).cell? ⟨W.heap.size + 1, 1, none⟩ = some (.int .i64 a.n) ∧ (put5 w' (W.heap.size + 1) (.int .i64 a.fr) (.int .i64 a.n) (.int .i64 a.sd) (.slice ba a.L.length bc) (.slice ra rn rc)).cell? ⟨W.heap.size + 1, 2, none⟩ = some (.int .i64 a.sd) ∧ (put5 w' (W.heap.size + 1) (.int .i64 a.fr) (.int .i64 a.n) (.int .i64 a.sd) (.slice ba a.L.length bc) (.slice ra rn rc)).cell? ⟨W.heap.size + 1, 3, none⟩ = some (.slice ba a.L.length bc) ∧ (put5 w' (W.heap.size + 1) (.int .i64 a.fr) (.int .i64 a.n) (.int .i64 a.sd) (.slice ba a.L.length bc) (.slice ra rn rc)).cell? ⟨W.heap.size + 1, 4, none⟩ = some (.slice ra rn rc) ∧
          Hid ((∃ E, Bes W.heap.size (put5 w' (W.heap.size + 1) (.int .i64 a.fr) (.int .i64 a.n) (.int .i64 a.sd) (.slice ba a.L.length bc) (.slice ra rn rc)) (.slice ba a.L.length bc) E (stL k.x.cs a.L)) ∧ NumO W.heap.size (put5 w' (W.heap.size + 1) (.int .i64 a.fr) (.int .i64 a.n) (.int .i64 a.sd) (.slice ba a.L.length bc) (.slice ra rn rc)) (.slice ra rn rc) a.gl ∧ Below W.heap.size W (put5 w' (W.heap.size + 1) (.int .i64 a.fr) (.int .i64 a.n) (.int .i64 a.sd) (.slice ba a.L.length bc) (.slice ra rn rc)))) := hid fun w hb => by
        refine (wall_any ((HH.out.later HB.out).later hb)).mono ?_
        rintro e w' ⟨ra, rn, rc, rfl, q1, q2⟩
        have q3 : Below wr.heap.size wr w' := hb.trans (q2.mono hb.size)
        have q4 := blk_seen q3 (Nat.le_refl _) P5.out
        have st5 := put5_st w' (W.heap.size + 1) (.int .i64 a.fr) (.int .i64 a.n) (.int .i64 a.sd) (.slice ba a.L.length bc) (.slice ra rn rc)
        have bl5 := put5_blk q4 (.int .i64 a.fr) (.int .i64 a.n) (.int .i64 a.sd) (.slice ba a.L.length bc) (.slice ra rn rc)
        have q5 : Below (W.heap.size + 1) wr w' := q3.mono (by have := HSB.out; omega)
        have q6 := q5.trans (st5.below (B := W.heap.size + 1) (fun y e => by omega) (by have := q5.size; have := HSB.out; omega))
        have q7 : Below w1.heap.size w1 w' := HB.out.trans (q3.mono HB.out.size)
        refine ⟨ra, rn, rc, rfl, q3, KK.out _ q5, blk_free q4 0, blk_free q4 1, blk_free q4 2, blk_free q4 3, blk_free q4 4, cell_blk q4 rfl, cell_blk q4 rfl, cell_blk q4 rfl, cell_blk q4 rfl, cell_blk q4 rfl, KK.out _ q6, cell_blk bl5 rfl, cell_blk bl5 rfl, cell_blk bl5 rfl, cell_blk bl5 rfl, cell_blk bl5 rfl, ?_, ?_, ?_⟩
        · have e5 := E5.out.later q3
          refine ⟨E, ⟨e5.row.kept st5 (fun y hy q => by have := (World.ownsRow.lt e5.row y hy).1; omega), e5.len, fun i id pv hi => by obtain ⟨ps, g1, g2⟩ := e5.at' i id pv hi; exact ⟨ps, g1, So.own_kept g2 st5 fun y hy q => by have := (g2.lt y hy).1; omega⟩, e5.apart⟩ |> fun z => Bes.lower z (by omega)⟩
        · have ho : NumO w.heap.size (put5 w' (W.heap.size + 1) (.int .i64 a.fr) (.int .i64 a.n) (.int .i64 a.sd) (.slice ba a.L.length bc) (.slice ra rn rc)) (.slice ra rn rc) a.gl := So.own_kept q1 st5 fun y hy q => by
            have := (World.ownsRow.lt q1 y hy).1
            have := hb.size
            have := HSB.out
            omega
          exact ho.lower (by have := hb.size; omega)
        · exact B1.out.trans ((q7.mono B1.out.size).trans (st5.below (B := W.heap.size) (fun y e => by omega) (by have := q7.size; omega)))
      have hmm : W.heap.size + 1 ≤ wr.heap.size := by have := HSB.out; omega
      obtain ⟨s0, s1, s2, s3, s4⟩ := KK.out wr ((Below.refl wr.heap.size wr).mono hmm)
      have k0 : Below wr.heap.size wr wr := Below.refl _ _
      have k0d := k0.drew
      have sS := KK.out wr.drew (k0d.mono hmm)
      go_upto_region 9 with fail
      go_region_held3 (fun w => w.cell? ⟨W.heap.size, 0, none⟩ = some (.pointer (some ⟨wb, 0, none⟩)) ∧ w.cell? ⟨wb, 7, none⟩ = some (.int .i64 a.fr) ∧ w.cell? ⟨wb, 4, none⟩ = some (.pointer (some ⟨k.x.bb, 0, none⟩)) ∧ w.cell? ⟨wb, 8, none⟩ = some (.int .i64 a.sd) ∧ w.cell? ⟨wb, 5, none⟩ = some (.pointer (some ⟨k.x.gb, 0, none⟩)))
        (first | (with_reducible assumption) | fail)
        (first
          | (go_at_call 68; refine (NX.out _ (by with_reducible assumption)).mono ?_; rintro e v1 ⟨rfl, rfl⟩)
          | (go_at_call 69; refine (AL.out _ (by with_reducible assumption)).mono ?_; rintro e v2 ⟨ra, rn, rc, rfl, bb2, hS2, f0, f1, f2, f3, f4, y0, y1, y2, y3, y4, hS5, z0, z1, z2, z3, z4, HFIN⟩)
          | fail)
      all_goals
        clear KK NX AL
        go_wp2_with fail
        obtain ⟨g1, g2, g3⟩ := HFIN.out
        exact bodyPost_ret (v := .agg #[.int .i64 a.fr, .int .i64 a.n, .int .i64 a.sd, .slice ba a.L.length bc, .slice ra rn rc]) (by simp [results, Tryz.results30, go_sem, z0, z1, z2, z3, z4]) rfl ⟨_, _, _, _, _, _, rfl, g1, g2, g3⟩
end
end Go.Proofs.YthadfdbkkmmgoaaGreatDoor.Wo
namespace Go.Proofs.YthadfdbkkmmgoaaGreatDoor.Wo
open Go.RowKit Go.Shelf Go.Maps
open Go.Proofs.YthadfdbkkmmgoaaGreatDoor.At (St bAl cell_blk blk_seen blk_free)
open Go.Proofs.YthadfdbkkmmgoaaGreatDoor.Rs (SD Prt Prts PRow)
set_option maxHeartbeats 1600000 in
set_option maxRecDepth 100000 in
theorem equal_parts (W : World) (v u : Value) (l : List Prt) (h : PRow W v l) (h' : PRow W u l) (hl : l.length ≤ 1000) :
    Calls Tryz.prog 115 #[v, u] W fun e W' => e = .returned (.bool true) ∧ Below W.heap.size W W' := by
  have H := hid h
  have H' := hid h'
  obtain ⟨a, c, rfl, -⟩ := h
  obtain ⟨a', c', rfl, -⟩ := h'
  have hli : (l.length : Int) ≤ 1000 := by omega
  have nq := Co.neqP
  go_enter Tryz.func115, Tryz.ntmps115
  go_wp2_with fail
  go_loopg [5, 13] l.length (fun gh _ i wr => ∃ k : Nat, k ≤ l.length ∧ gh = l.length - k ∧ i = .int .i64 (k : Int) ∧ Hid (Below W.heap.size W wr))
  case atStart => exact ⟨0, Nat.zero_le _, rfl, rfl, Below.refl _ _⟩
  case round =>
    rename World => wr
    obtain ⟨k, hk, rfl, rfl, HB⟩ := hrel
    by_cases hlt : k < l.length
    · have hki : (k : Int) < (l.length : Int) := by omega
      obtain ⟨p, hp⟩ := at_lt l k hlt
      obtain ⟨b, o, rfl, six⟩ := (H.out.later HB.out).at hp
      obtain ⟨b', o', rfl, six'⟩ := (H'.out.later HB.out).at hp
      obtain ⟨d0, d1, d2, d3, d4, d5⟩ := six
      obtain ⟨f0, f1, f2, f3, f4, f5⟩ := six'
      clear hp
      go_wp2_with fail
      go_quiet (fail)
      go_wp2_with fail
      go_roundg (l.length - (k + 1))
      case measure => omega
      case rel => exact ⟨k + 1, by omega, rfl, by go_num, HB.out.trans ((At.drewN_below _ _).mono HB.out.size)⟩
    · have hki : ¬ ((k : Int) < (l.length : Int)) := by omega
      go_wp2_with fail
      go_ret
      exact ⟨rfl, HB.out⟩
set_option maxHeartbeats 1600000 in
set_option maxRecDepth 100000 in
theorem equal_ints (W : World) (v u : Value) (l : List Int) (h : NumR W v l) (h' : NumR W u l) (hl : l.length ≤ 1000) :
    Calls Tryz.prog 73 #[v, u] W fun e W' => e = .returned (.bool true) ∧ Below W.heap.size W W' := by
  have H := hid h
  have H' := hid h'
  obtain ⟨a, c, rfl, -⟩ := h
  obtain ⟨a', c', rfl, -⟩ := h'
  have hli : (l.length : Int) ≤ 1000 := by omega
  go_enter Tryz.func73, Tryz.ntmps73
  go_wp2_with fail
  go_loopg [5, 13] l.length (fun gh _ i wr => ∃ k : Nat, k ≤ l.length ∧ gh = l.length - k ∧ i = .int .i64 (k : Int) ∧ Hid (Below W.heap.size W wr))
  case atStart => exact ⟨0, Nat.zero_le _, rfl, rfl, Below.refl _ _⟩
  case round =>
    rename World => wr
    obtain ⟨k, hk, rfl, rfl, HB⟩ := hrel
    by_cases hlt : k < l.length
    · have hki : (k : Int) < (l.length : Int) := by omega
      obtain ⟨x, hx⟩ := at_lt l k hlt
      obtain ⟨g, rfl, d0⟩ : ∃ g, a = some ⟨g, 0, none⟩ ∧ wr.cell? ⟨g, k, none⟩ = some (.int .i64 x) := by
        obtain ⟨a2, c2, hv, hr⟩ := H.out.later HB.out
        obtain ⟨rfl, rfl⟩ : a = a2 ∧ c = c2 := by simpa using hv
        exact hr k x hx
      obtain ⟨g', rfl, d1⟩ : ∃ g, a' = some ⟨g, 0, none⟩ ∧ wr.cell? ⟨g, k, none⟩ = some (.int .i64 x) := by
        obtain ⟨a2, c2, hv, hr⟩ := H'.out.later HB.out
        obtain ⟨rfl, rfl⟩ : a' = a2 ∧ c' = c2 := by simpa using hv
        exact hr k x hx
      clear hx
      go_wp2_with fail
      go_quiet (fail)
      go_wp2_with fail
      go_roundg (l.length - (k + 1))
      case measure => omega
      case rel => exact ⟨k + 1, by omega, rfl, by go_num, HB.out.trans ((At.drewN_below _ _).mono HB.out.size)⟩
    · have hki : ¬ (k : Int) < (l.length : Int) := by omega
      go_wp2_with fail
      go_ret
      exact ⟨rfl, HB.out⟩
end Go.Proofs.YthadfdbkkmmgoaaGreatDoor.Wo
namespace Go.Proofs.YthadfdbkkmmgoaaGreatDoor.Wo
open Go.RowKit Go.Shelf Go.Maps
open Go.Proofs.YthadfdbkkmmgoaaGreatDoor.At (St bAl cell_blk blk_seen blk_free)
open Go.Proofs.YthadfdbkkmmgoaaGreatDoor.Rs (SD Prt Prts PRow)
set_option maxHeartbeats 1600000 in
theorem same_be (W : World) (id : Int) (v u : Value) (l : List Prt) (h : PRow W v l) (h' : PRow W u l) (hl : l.length ≤ 1000) :
    Calls Tryz.prog 72 #[.agg #[.int .i64 id, v], .agg #[.int .i64 id, u]] W fun e W' => e = .returned (.bool true) ∧ Below W.heap.size W W' := by
  obtain ⟨b2, r2, p2⟩ := Rs.two_blk W #[.int .i64 id, v] #[.int .i64 id, u] 133 133
  obtain ⟨a, c, rfl, -⟩ := show PRow W v l from h
  obtain ⟨a', c', rfl, -⟩ := show PRow W u l from h'
  obtain ⟨w2, hw2⟩ : ∃ w2, w2 = (W.alloc (.cells #[.int .i64 id, .slice a l.length c] 133)).alloc (.cells #[.int .i64 id, .slice a' l.length c'] 133) := ⟨_, rfl⟩
  rw [← hw2] at b2 r2 p2
  have EQ := hid (equal_parts w2 _ _ l (h.later b2) (h'.later b2) hl)
  have y0 : w2.cell? ⟨W.heap.size, 0, none⟩ = some (.int .i64 id) := cell_blk r2 rfl
  have y1 : w2.cell? ⟨W.heap.size, 1, none⟩ = some (.slice a l.length c) := cell_blk r2 rfl
  have z0 : w2.cell? ⟨W.heap.size + 1, 0, none⟩ = some (.int .i64 id) := cell_blk p2 rfl
  have z1 : w2.cell? ⟨W.heap.size + 1, 1, none⟩ = some (.slice a' l.length c') := cell_blk p2 rfl
  have HW2 := hid hw2
  have B2 := hid b2
  clear h h' hw2 b2 r2 p2
  go_enter Tryz.func72, Tryz.ntmps72
  go_upto_region 1 with fail
  rw [← HW2.out]
  go_wp2_with fail
  refine EQ.out.mono ?_
  rintro e w3 ⟨rfl, hb⟩
  have B3 := hid (B2.out.trans (hb.mono B2.out.size))
  clear hb EQ
  go_wp2_with fail
  go_ret
  exact ⟨rfl, B3.out⟩
set_option maxHeartbeats 3200000 in
set_option maxRecDepth 100000 in
theorem equal_bes (W : World) (N N' : Nat) (v u : Value) (E E' : List (Int × Value)) (L : Bgs) (h : Bes N W v E L) (h' : Bes N' W u E' L) (hl : L.length ≤ 1000) (hr : ∀ x ∈ L, x.2.length ≤ 1000) :
    Calls Tryz.prog 71 #[v, u, .func (.func 72) #[] #[]] W fun e W' => e = .returned (.bool true) ∧ Below W.heap.size W W' := by
  have H := hid h
  have H' := hid h'
  obtain ⟨a, c, rfl⟩ := h.slice
  obtain ⟨a', c', rfl⟩ := h'.slice
  have hli : (L.length : Int) ≤ 1000 := by omega
  have HR := hid hr
  have hE1 : Hid (E.length = L.length) := h.len
  have hE2 : Hid (E'.length = L.length) := h'.len
  clear h h' hr
  go_enter Tryz.func71, Tryz.ntmps71
  go_wp2_with fail
  go_loopg [7, 8, 9, 17] L.length (fun gh _ _ _ i wr => ∃ k : Nat, k ≤ L.length ∧ gh = L.length - k ∧ i = .int .i64 (k : Int) ∧ Hid (Below W.heap.size W wr))
  case atStart => exact ⟨0, Nat.zero_le _, rfl, rfl, Below.refl _ _⟩
  case round =>
    rename World => wr
    obtain ⟨k, hk, rfl, rfl, HB⟩ := hrel
    by_cases hlt : k < L.length
    · have hki : (k : Int) < (L.length : Int) := by omega
      obtain ⟨⟨id1, p1⟩, e1⟩ := at_lt E k (by have := hE1.out; omega)
      obtain ⟨⟨id2, p2⟩, e2⟩ := at_lt E' k (by have := hE2.out; omega)
      have K := H.out.later HB.out
      have K' := H'.out.later HB.out
      obtain ⟨ps, q1, q2⟩ := K.at' k id1 p1 e1
      obtain ⟨ps', q1', q2'⟩ := K'.at' k id2 p2 e2
      obtain ⟨rfl, rfl⟩ : id1 = id2 ∧ ps = ps' := by rw [q1] at q1'; simpa using q1'
      obtain ⟨g, rfl, d0, d1⟩ := K.row.at e1
      obtain ⟨g', rfl, d0', d1'⟩ := K'.row.at e2
      obtain ⟨xa, xc, rfl⟩ := q2.slice
      obtain ⟨xa', xc', rfl⟩ := q2'.slice
      have hrow := HR.out _ (List.mem_of_getElem? q1)
      obtain ⟨b2, r2, p2⟩ := Rs.two_blk wr #[.int .i64 id1, .slice xa ps.length xc] #[.int .i64 id1, .slice xa' ps.length xc'] 133 133
      obtain ⟨w2, hw2⟩ : ∃ w2, w2 = (wr.alloc (.cells #[.int .i64 id1, .slice xa ps.length xc] 133)).alloc (.cells #[.int .i64 id1, .slice xa' ps.length xc'] 133) := ⟨_, rfl⟩
      rw [← hw2] at b2 r2 p2
      have b1 := bAl wr (.cells #[.int .i64 id1, .slice xa ps.length xc] 133)
      have SB := hid (same_be w2 id1 _ _ ps (q2.row.later b2) (q2'.row.later b2) hrow)
      have t0 : (wr.alloc (.cells #[.int .i64 id1, .slice xa ps.length xc] 133)).cell? ⟨g', k * 2, none⟩ = some (.int .i64 id1) := At.seen b1 (Nat.le_refl _) d0'
      have t1 : (wr.alloc (.cells #[.int .i64 id1, .slice xa ps.length xc] 133)).cell? ⟨g', k * 2 + 1, none⟩ = some (.slice xa' ps.length xc') := At.seen b1 (Nat.le_refl _) d1'
      have y0 : w2.cell? ⟨wr.heap.size, 0, none⟩ = some (.int .i64 id1) := cell_blk r2 rfl
      have y1 : w2.cell? ⟨wr.heap.size, 1, none⟩ = some (.slice xa ps.length xc) := cell_blk r2 rfl
      have z0 : w2.cell? ⟨wr.heap.size + 1, 0, none⟩ = some (.int .i64 id1) := cell_blk p2 rfl
      have z1 : w2.cell? ⟨wr.heap.size + 1, 1, none⟩ = some (.slice xa' ps.length xc') := cell_blk p2 rfl
      have HW2 := hid hw2
      have B2 := hid (HB.out.trans (b2.mono HB.out.size))
      clear e1 e2 K K' q1 q1' q2 q2' hrow hw2 b2 r2 p2 b1
      go_upto_region 7 with fail
      rw [← HW2.out]
      go_wp2_with fail
      refine SB.out.mono ?_
      rintro e w3 ⟨rfl, hb⟩
      have B3 := hid (B2.out.trans (hb.mono B2.out.size))
      clear hb SB
      go_wp2_with fail
      go_roundg (L.length - (k + 1))
      case measure => omega
      case rel => exact ⟨k + 1, by omega, rfl, by go_num, B3.out⟩
    · have hki : ¬ ((k : Int) < (L.length : Int)) := by omega
      go_wp2_with fail
      go_ret
      exact ⟨rfl, HB.out⟩
set_option maxHeartbeats 3200000 in
set_option maxRecDepth 100000 in
theorem same_any (W : World) (N N' : Nat) (fr n sd : Int) (ba ba' ra ra' : Option Addr) (bn bc bn' bc' rn rc rn' rc' : Nat) (E E' : List (Int × Value)) (L : Bgs) (xs : List Int) (h : Bes N W (.slice ba bn bc) E L) (h' : Bes N' W (.slice ba' bn' bc') E' L) (hl : L.length ≤ 1000) (hr : ∀ x ∈ L, x.2.length ≤ 1000) (hx : NumR W (.slice ra rn rc) xs) (hx' : NumR W (.slice ra' rn' rc') xs) (hxl : xs.length ≤ 1000) :
    Calls Tryz.prog 33 #[.agg #[.int .i64 fr, .int .i64 n, .int .i64 sd, .slice ba bn bc, .slice ra rn rc], .agg #[.int .i64 fr, .int .i64 n, .int .i64 sd, .slice ba' bn' bc', .slice ra' rn' rc']] W fun e W' => e = .returned (.bool true) ∧ Below W.heap.size W W' := by
  obtain ⟨b2, r2, p2⟩ := Rs.two_blk W #[.int .i64 fr, .int .i64 n, .int .i64 sd, .slice ba bn bc, .slice ra rn rc] #[.int .i64 fr, .int .i64 n, .int .i64 sd, .slice ba' bn' bc', .slice ra' rn' rc'] 76 76
  obtain ⟨w2, hw2⟩ : ∃ w2, w2 = (W.alloc (.cells #[.int .i64 fr, .int .i64 n, .int .i64 sd, .slice ba bn bc, .slice ra rn rc] 76)).alloc (.cells #[.int .i64 fr, .int .i64 n, .int .i64 sd, .slice ba' bn' bc', .slice ra' rn' rc'] 76) := ⟨_, rfl⟩
  rw [← hw2] at b2 r2 p2
  have EB := hid (equal_bes w2 N N' _ _ E E' L (h.later b2) (h'.later b2) hl hr)
  have EI : Hid (∀ w, Below w2.heap.size w2 w → Calls Tryz.prog 73 #[.slice ra rn rc, .slice ra' rn' rc'] w fun e W' => e = .returned (.bool true) ∧ Below w.heap.size w W') := hid fun w hb => equal_ints w _ _ xs (hx.later (b2.trans (hb.mono b2.size))) (hx'.later (b2.trans (hb.mono b2.size))) hxl
  have y0 : w2.cell? ⟨W.heap.size, 0, none⟩ = some (.int .i64 fr) := cell_blk r2 rfl
  have y1 : w2.cell? ⟨W.heap.size, 1, none⟩ = some (.int .i64 n) := cell_blk r2 rfl
  have y2 : w2.cell? ⟨W.heap.size, 2, none⟩ = some (.int .i64 sd) := cell_blk r2 rfl
  have y3 : w2.cell? ⟨W.heap.size, 3, none⟩ = some (.slice ba bn bc) := cell_blk r2 rfl
  have z0 : w2.cell? ⟨W.heap.size + 1, 0, none⟩ = some (.int .i64 fr) := cell_blk p2 rfl
  have z1 : w2.cell? ⟨W.heap.size + 1, 1, none⟩ = some (.int .i64 n) := cell_blk p2 rfl
  have z2 : w2.cell? ⟨W.heap.size + 1, 2, none⟩ = some (.int .i64 sd) := cell_blk p2 rfl
  have z3 : w2.cell? ⟨W.heap.size + 1, 3, none⟩ = some (.slice ba' bn' bc') := cell_blk p2 rfl
  have HW2 := hid hw2
  have B2 := hid b2
  have R2 := hid r2
  have P2 := hid p2
  clear h h' hr hx hx' hw2 b2 r2 p2
  go_enter Tryz.func33, Tryz.ntmps33
  go_upto_region 1 with fail
  rw [← HW2.out]
  go_wp2_with fail
  refine EB.out.mono ?_
  rintro e w3 ⟨rfl, hb⟩
  have B3 := hid (B2.out.trans (hb.mono B2.out.size))
  have y4 : w3.cell? ⟨W.heap.size, 4, none⟩ = some (.slice ra rn rc) := cell_blk (blk_seen hb (Nat.le_refl _) R2.out) rfl
  have z4 : w3.cell? ⟨W.heap.size + 1, 4, none⟩ = some (.slice ra' rn' rc') := cell_blk (blk_seen hb (Nat.le_refl _) P2.out) rfl
  have E3 := hid (EI.out w3 hb)
  clear hb EB EI y0 y1 y2 y3 z0 z1 z2 z3
  go_wp2_with fail
  refine E3.out.mono ?_
  rintro e w4 ⟨rfl, hb⟩
  have B4 := hid (B3.out.trans (hb.mono B3.out.size))
  clear hb E3
  go_wp2_with fail
  go_ret
  exact ⟨rfl, B4.out⟩
end Go.Proofs.YthadfdbkkmmgoaaGreatDoor.Wo
namespace Go.Proofs.YthadfdbkkmmgoaaGreatDoor.Or
open Go.RowKit Go.Shelf Go.Maps
open Go.Proofs.YthadfdbkkmmgoaaGreatDoor.At (St bAl cell_blk blk_seen blk_free)
open Go.Proofs.YthadfdbkkmmgoaaGreatDoor.Sc (Cmp Rsc CmpRow RscRow SmallC SmallQ checkL)
open Go.Proofs.YthadfdbkkmmgoaaGreatDoor.Rs (Prt)
open Go.Proofs.YthadfdbkkmmgoaaGreatDoor.Wo (Fin Up Ed at_es at_ed Ev st_mono WK AP Wa GoA PFree)
set_option maxRecDepth 100000
theorem eqI1 (d : Nat) (x : Int) (w : World) : (Op.equalIn (d + 1) 3 (.int .i64 x) (.int .i64 x)).run Tryz.prog w = .ok true w := by
  rw [run_equalIn_int w d 3 .i64 .i64 x x Tryz.underlying3]
  simp
theorem eqRep (d f : Int) (w : World) : (Op.equalIn 10000 55 (.agg #[.int .i64 d, .int .i64 f]) (.agg #[.int .i64 d, .int .i64 f])).run Tryz.prog w = .ok true w := by
  have hS : Tryz.prog.underlying 55 = some (.struct (Tryz.prog.fieldsOf 55)) := by kernel_rfl
  have hp : Tryz.prog.stoodInHeld 55 = false := by kernel_rfl
  have h := run_equalIn_agg (P := Tryz.prog) w 9999 55 #[.int .i64 d, .int .i64 f] #[.int .i64 d, .int .i64 f] hS hp
  have u3 := Tryz.underlying3
  have a3 := Tryz.isAgg3
  have z3 := Tryz.sizeOf3
  simp only [Program.fieldsOf, Tryz.underlying55] at h
  rw [show (10000 : Nat) = 9999 + 1 from rfl, h]
  clear h hS hp
  go_simp
theorem eqlR (d f : Int) (w : World) : (binOp .eql 55 (.agg #[.int .i64 d, .int .i64 f]) (.agg #[.int .i64 d, .int .i64 f])).run Tryz.prog w = .ok (.bool true) w := by
  simp only [binOp]
  simp [Op.equal, Op.maxDepth, eqRep]
theorem doA_k {k k' : WK} (h1 : k.x.cs = k'.x.cs) (h2 : k.ws = k'.ws) (h3 : k.most = k'.most) (a : AP) (y : Od) : doA k a y = doA k' a y := by
  obtain ⟨⟨sb, bb, gb, kv, cs, ns⟩, ws, most⟩ := k
  obtain ⟨⟨sb', bb', gb', kv', cs', ns'⟩, ws', most'⟩ := k'
  simp only at h1 h2 h3
  subst h1 h2 h3
  rfl
theorem runA_k {k k' : WK} (h1 : k.x.cs = k'.x.cs) (h2 : k.ws = k'.ws) (h3 : k.most = k'.most) (a : AP) (L : List Od) : runA k a L = runA k' a L := by
  unfold runA
  congr 1
  funext s y
  unfold stA
  rw [doA_k h1 h2 h3]
theorem fold_from (k : WK) : ∀ (L : List Od) (d f : Nat) (a : AP), L.foldl (stA k) ⟨d, f, a⟩ = ⟨d + (L.foldl (stA k) ⟨0, 0, a⟩).d, f + (L.foldl (stA k) ⟨0, 0, a⟩).f, (L.foldl (stA k) ⟨0, 0, a⟩).a⟩
  | [], d, f, a => rfl
  | y :: L, d, f, a => by
    rw [List.foldl_cons, List.foldl_cons]
    have e : ∀ d f, stA k ⟨d, f, a⟩ y = if (doA k a y).1 = 0 then ⟨d + 1, f, (doA k a y).2⟩ else ⟨d, f + 1, (doA k a y).2⟩ := fun d f => rfl
    rw [e, e]
    split
    · rw [fold_from k L (d + 1), fold_from k L (0 + 1)]
      simp only [RA.mk.injEq, and_true]
      omega
    · rw [fold_from k L d (f + 1), fold_from k L 0 (0 + 1)]
      simp only [RA.mk.injEq, and_true]
      omega
theorem runA_app (k : WK) (a : AP) (L M : List Od) : runA k a (L ++ M) = ⟨(runA k a L).d + (runA k (runA k a L).a M).d, (runA k a L).f + (runA k (runA k a L).a M).f, (runA k (runA k a L).a M).a⟩ := by
  unfold runA
  rw [List.foldl_append]
  exact fold_from k M _ _ _
theorem rows_few {B : Nat} {G : Wo.Own} {W : World} {wb : Nat} {k : WK} {t : Nat} {a : AP} (h : Wa B G W wb k t a) : ∀ x ∈ a.L, x.2.length ≤ 16 := fun x hx => by
  obtain ⟨j, hj⟩ := List.getElem?_of_mem hx
  obtain ⟨p, i, g, s⟩ := h.stands (h.who (id := x.1) (row := x.2) hj).1
  obtain ⟨c, q1, q2, q3⟩ := s.d.z.st
  obtain ⟨n, j, m, own, y, A⟩ := q1.stands s.al (by simp)
  have := Rs.okL_few A.ok.1 q1.okw.1
  rw [s.at'] at this
  exact this
theorem stL_few {cs : List Cmp} {L : Wo.Bgs} {n : Nat} (h : ∀ x ∈ L, x.2.length ≤ n) : ∀ x ∈ Wo.stL cs L, x.2.length ≤ n := fun x hx => by
  unfold Wo.stL at hx
  obtain ⟨y, hy, rfl⟩ := List.mem_map.1 hx
  exact Nat.le_trans (List.length_filter_le ..) (h y hy)
/-- Two worlds, two rows of commands; what was counted lies at sb. -/
structure TQ (B B2 : Nat) (W : World) (wa wb oa ob : Nat) (kva kvb : Value) (k k' : WK) (sb : Nat) (La Lb : List Od) (a1 a2 : AP) (gb : Int) (d f n : Nat) (wr : World) : Prop where
  ex : ∃ Ga Ho ova Gb Hp ovb ta tb, Pr B Ga Ho wr wa oa kva ova k ta a1 ⟨small3, 64, La, gb, 0⟩ ∧ Pr B2 Gb Hp wr wb ob kvb ovb k' tb a2 ⟨small3, 64, Lb, gb, 0⟩ ∧ ta ≤ n ∧ tb ≤ n ∧ (∀ j, (Ga j ≠ 0 ∨ Ho j ≠ 0) → Gb j = 0 ∧ Hp j = 0) ∧ (Ga sb = 0 ∧ Ho sb = 0 ∧ Gb sb = 0 ∧ Hp sb = 0)
  sum : wr.heap[sb]? = some (.cells #[.int .i64 (d : Int), .int .i64 (f : Int)] 55 (0, 0))
  sbl : W.heap.size ≤ sb
  low : W.heap.size ≤ B ∧ W.heap.size ≤ B2
  bel : Below W.heap.size W wr
section
variable {B B2 : Nat} {W w w' : World} {wa wb oa ob : Nat} {kva kvb : Value} {k k' : WK} {sb : Nat} {La Lb : List Od} {a1 a2 : AP} {ga gb : Int} {d f n : Nat} {Ad : Nat → Addr}
theorem TQ.later (h : TQ B B2 W wa wb oa ob kva kvb k k' sb La Lb a1 a2 gb d f n w) (hb : Below w.heap.size w w') : TQ B B2 W wa wb oa ob kva kvb k k' sb La Lb a1 a2 gb d f n w' := by
  obtain ⟨⟨Ga, Ho, ova, Gb, Hp, ovb, ta, tb, h1, h2, h3, h4, h5, h6⟩, h7, h8, h9, h10⟩ := h
  exact ⟨⟨Ga, Ho, ova, Gb, Hp, ovb, ta, tb, h1.later hb, h2.later hb, h3, h4, h5, h6⟩, blk_seen hb (Nat.le_refl _) h7, h8, h9, h10.trans (hb.mono h10.size)⟩
theorem TQ.more {n' : Nat} (h : TQ B B2 W wa wb oa ob kva kvb k k' sb La Lb a1 a2 gb d f n w) (hn : n ≤ n') : TQ B B2 W wa wb oa ob kva kvb k k' sb La Lb a1 a2 gb d f n' w := by
  obtain ⟨⟨Ga, Ho, ova, Gb, Hp, ovb, ta, tb, h1, h2, h3, h4, h5, h6⟩, h7, h8, h9, h10⟩ := h
  exact ⟨⟨Ga, Ho, ova, Gb, Hp, ovb, ta, tb, h1, h2, by omega, by omega, h5, h6⟩, h7, h8, h9, h10⟩
theorem bes_dis {Ga Ho G2 H2 Gb Hp : Wo.Own} (hs : Bs Ga Ho G2 H2 w w') (hf1 : ∀ j, (Gb j ≠ 0 ∨ Hp j ≠ 0) → j < w.heap.size) (hd : ∀ j, (Ga j ≠ 0 ∨ Ho j ≠ 0) → Gb j = 0 ∧ Hp j = 0) : ∀ j, (G2 j ≠ 0 ∨ H2 j ≠ 0) → Gb j = 0 ∧ Hp j = 0 := fun j hj => by
  by_cases e : j < w.heap.size
  · rw [hs.og j e, hs.oh j e] at hj
    exact hd j hj
  · exact ⟨Classical.byContradiction fun q => e (hf1 j (.inl q)), Classical.byContradiction fun q => e (hf1 j (.inr q))⟩
theorem dis_flip {Ga Ho Gb Hp : Wo.Own} (hd : ∀ j, (Ga j ≠ 0 ∨ Ho j ≠ 0) → Gb j = 0 ∧ Hp j = 0) : ∀ j, (Gb j ≠ 0 ∨ Hp j ≠ 0) → Ga j = 0 ∧ Ho j = 0 := fun j hj =>
  ⟨Classical.byContradiction fun q => by have := hd j (.inl q); omega, Classical.byContradiction fun q => by have := hd j (.inr q); omega⟩
theorem pr_lt {B : Nat} {G H : Wo.Own} {W : World} {wb ob : Nat} {kv ov : Value} {k : WK} {t : Nat} {a : AP} {x : OP} (h : Pr B G H W wb ob kv ov k t a x) : ∀ j, (G j ≠ 0 ∨ H j ≠ 0) → j < W.heap.size := fun j hj => by
  rcases hj with q | q
  · exact (h.wa.fin j q).2
  · exact (h.oz.fin j q).2
/-- The first world or its commands take a step. -/
theorem tq_one {Ga Ho G2 H2 Gb Hp : Wo.Own} {ovb : Value} {tb : Nat} {y : OP} (h2 : Pr B Gb Hp w wb ob kvb ovb k' tb a2 y) (hd : ∀ j, (Ga j ≠ 0 ∨ Ho j ≠ 0) → Gb j = 0 ∧ Hp j = 0) (h0 : Ga sb = 0 ∧ Ho sb = 0 ∧ Gb sb = 0 ∧ Hp sb = 0) {c : Array Value} {e : TypeId} (hs : w.heap[sb]? = some (.cells c e (0, 0)))
    (s : Bs Ga Ho G2 H2 w w') : Pr B Gb Hp w' wb ob kvb ovb k' tb a2 y ∧ (∀ j, (G2 j ≠ 0 ∨ H2 j ≠ 0) → Gb j = 0 ∧ Hp j = 0) ∧ (G2 sb = 0 ∧ H2 sb = 0 ∧ Gb sb = 0 ∧ Hp sb = 0) ∧ w'.heap[sb]? = some (.cells c e (0, 0)) := by
  have hsl := (Array.getElem?_eq_some_iff.1 hs).1
  exact ⟨h2.beside s.st (fun j hj q => hj (hd j q).1) (fun j hj q => hj (hd j q).2), bes_dis s (pr_lt h2) hd, ⟨by rw [s.og sb hsl]; exact h0.1, by rw [s.oh sb hsl]; exact h0.2.1, h0.2.2⟩, s.st.at hs fun q => by rcases q with q | q; exact q h0.1; exact q h0.2.1⟩
/-- What is taken of a command. -/
def taken (y : Od) : List Od := if y.can 3 then [y] else []
theorem tq_add (h : TQ B B2 W wa wb oa ob kva kvb k k' sb La Lb a1 a2 gb d f n w) (hg : 0 ≤ gb ∧ gb < 64) (hl : La.length ≤ 64) (hE : Env8 W Ad) (y : Od) (hy : y.ok) :
    Calls Tryz.prog 15 #[.pointer (some ⟨oa, 0, none⟩), .agg #[.int .i64 y.k, .int .i64 y.id, .int .u32 (y.m : Int), .int .i64 y.c]] w (fun e w' => ∃ v, e = .returned v ∧ w'.heap[sb]? = w.heap[sb]? ∧ Below W.heap.size W w' ∧ 
      ∃ Ga Ho ova Gb Hp ovb ta tb, Pr B Ga Ho w' wa oa kva ova k ta a1 ⟨small3, 64, La ++ taken y, gb + ((taken y).length : Int), 0⟩ ∧ Pr B2 Gb Hp w' wb ob kvb ovb k' tb a2 ⟨small3, 64, Lb, gb, 0⟩ ∧ ta ≤ n ∧ tb ≤ n ∧ (∀ j, (Ga j ≠ 0 ∨ Ho j ≠ 0) → Gb j = 0 ∧ Hp j = 0) ∧ (Ga sb = 0 ∧ Ho sb = 0 ∧ Gb sb = 0 ∧ Hp sb = 0)) := by
  obtain ⟨⟨Ga, Ho, ova, Gb, Hp, ovb, ta, tb, h1, h2, h3, h4, h5, h6⟩, h7, h8, h9, h10⟩ := h
  have hEv : Ev B w Ad := ⟨W, hE, h9.1, h10⟩
  unfold taken
  cases hc : y.can 3 with
  | false =>
    refine (add_arg h1.oz hEv.env y hy hc).mono ?_
    rintro e w' ⟨v, rfl, -, k2⟩
    refine ⟨v, rfl, (blk_seen k2 (Nat.le_refl _) h7).trans h7.symm, h10.trans (k2.mono h10.size), Ga, Ho, ova, Gb, Hp, ovb, ta, tb, ?_, h2.later k2, h3, h4, h5, h6⟩
    have := h1.later k2
    simpa using this
  | true =>
    refine (add_ok h1.oz hEv y hy hc (by show gb ≠ 64; omega) (by show La.length < 900; omega)).mono ?_
    rintro e w' ⟨rfl, H', ov', ho, hu⟩
    obtain ⟨p, s2⟩ := h1.turn hu ho rfl
    obtain ⟨q1, q2, q3, q4⟩ := tq_one h2 h5 h6 h7 s2
    refine ⟨_, rfl, q4.trans h7.symm, h10.trans ((s2.bel h1).mono h9.1), Ga, H', ov', Gb, Hp, ovb, ta, tb, ?_, q1, h3, h4, q2, q3⟩
    simpa using p
/-- The command is added to both. -/
theorem tq_add2 {y : Od} {Ga Ho Gb Hp : Wo.Own} {ova ovb : Value} {ta tb : Nat} (h1 : Pr B Ga Ho w wa oa kva ova k ta a1 ⟨small3, 64, La, gb + ((taken y).length : Int), 0⟩) (h2 : Pr B2 Gb Hp w wb ob kvb ovb k' tb a2 ⟨small3, 64, [], gb, 0⟩) (h3 : ta ≤ n) (h4 : tb ≤ n) (h5 : ∀ j, (Ga j ≠ 0 ∨ Ho j ≠ 0) → Gb j = 0 ∧ Hp j = 0) (h6 : Ga sb = 0 ∧ Ho sb = 0 ∧ Gb sb = 0 ∧ Hp sb = 0) (h7 : w.heap[sb]? = some (.cells #[.int .i64 (d : Int), .int .i64 (f : Int)] 55 (0, 0))) (h8 : W.heap.size ≤ sb) (h9 : W.heap.size ≤ B ∧ W.heap.size ≤ B2) (h10 : Below W.heap.size W w) (hg : 0 ≤ gb ∧ gb < 64) (hE : Env8 W Ad) (hy : y.ok) :
    Calls Tryz.prog 15 #[.pointer (some ⟨ob, 0, none⟩), .agg #[.int .i64 y.k, .int .i64 y.id, .int .u32 (y.m : Int), .int .i64 y.c]] w (fun e w' => ∃ v, e = .returned v ∧ TQ B B2 W wa wb oa ob kva kvb k k' sb La (taken y) a1 a2 (gb + ((taken y).length : Int)) d f n w') := by
  have hEv : Ev B2 w Ad := ⟨W, hE, h9.2, h10⟩
  unfold taken at h1 ⊢
  cases hc : y.can 3 with
  | false =>
    rw [hc] at h1
    refine (add_arg h2.oz hEv.env y hy hc).mono ?_
    rintro e w' ⟨v, rfl, -, k2⟩
    have q1 := h1.later k2
    have q2 := h2.later k2
    simp at q1 ⊢
    exact ⟨⟨Ga, Ho, ova, Gb, Hp, ovb, ta, tb, q1, q2, h3, h4, h5, h6⟩, blk_seen k2 (Nat.le_refl _) h7, h8, h9, h10.trans (k2.mono h10.size)⟩
  | true =>
    rw [hc] at h1
    refine (add_ok h2.oz hEv y hy hc (by show gb ≠ 64; omega) (by show (0 : Nat) < 900; omega)).mono ?_
    rintro e w' ⟨rfl, H', ov', ho, hu⟩
    obtain ⟨p, s2⟩ := h2.turn hu ho rfl
    obtain ⟨q1, q2, q3, q4⟩ := tq_one (sb := sb) h1 (dis_flip h5) ⟨h6.2.2.1, h6.2.2.2, h6.1, h6.2.1⟩ h7 s2
    simp at q1 p ⊢
    exact ⟨⟨Ga, Ho, ova, Gb, H', ov', ta, tb, q1, p, h3, h4, dis_flip q2, ⟨q3.2.2.1, q3.2.2.2, q3.1, q3.2.1⟩⟩, q4, h8, h9, h10.trans ((s2.bel h2).mono h9.2)⟩
/-- The second is flushed. -/
theorem tq_flush2 (h : TQ B B2 W wa wb oa ob kva kvb k k' sb La Lb a1 a2 gb d f n w) (hn : n + Lb.length ≤ 200) (ha : a2.n ≤ 1000) (hl : Lb.length ≤ 200) (hE : Env8 W Ad) :
    Calls Tryz.prog 17 #[.pointer (some ⟨ob, 0, none⟩), .pointer (some ⟨wb, 0, none⟩)] w (fun e w' => e = .returned (.tuple #[.agg #[.int .i64 (((runA k' a2 Lb).d : Nat) : Int), .int .i64 (((runA k' a2 Lb).f : Nat) : Int)], .nilIface]) ∧ TQ B B2 W wa wb oa ob kva kvb k k' sb La [] a1 (runA k' a2 Lb).a gb d f (n + Lb.length) w') := by
  obtain ⟨⟨Ga, Ho, ova, Gb, Hp, ovb, ta, tb, h1, h2, h3, h4, h5, h6⟩, h7, h8, h9, h10⟩ := h
  have hEv : Ev B2 w Ad := ⟨W, hE, h9.2, h10⟩
  refine (flush_any h2 hEv (by show tb + Lb.length ≤ 900; omega) (by show a2.n + (Lb.length : Int) ≤ 1073741824; omega)).mono ?_
  rintro e w' ⟨rfl, G', H', ov', p, s2⟩
  obtain ⟨q1, q2, q3, q4⟩ := tq_one (sb := sb) h1 (dis_flip h5) ⟨h6.2.2.1, h6.2.2.2, h6.1, h6.2.1⟩ h7 s2
  exact ⟨rfl, ⟨Ga, Ho, ova, G', H', ov', ta, _, q1, p, by omega, by show tb + Lb.length ≤ _; omega, dis_flip q2, ⟨q3.2.2.1, q3.2.2.2, q3.1, q3.2.1⟩⟩, q4, h8, h9, h10.trans ((s2.bel h2).mono h9.2)⟩
/-- The first is flushed. -/
theorem tq_flush1 (h : TQ B B2 W wa wb oa ob kva kvb k k' sb La Lb a1 a2 gb d f n w) (hn : n + La.length ≤ 200) (ha : a1.n ≤ 1000) (hl : La.length ≤ 200) (hE : Env8 W Ad) :
    Calls Tryz.prog 17 #[.pointer (some ⟨oa, 0, none⟩), .pointer (some ⟨wa, 0, none⟩)] w (fun e w' => e = .returned (.tuple #[.agg #[.int .i64 (((runA k a1 La).d : Nat) : Int), .int .i64 (((runA k a1 La).f : Nat) : Int)], .nilIface]) ∧ TQ B B2 W wa wb oa ob kva kvb k k' sb [] Lb (runA k a1 La).a a2 gb d f (n + La.length) w') := by
  obtain ⟨⟨Ga, Ho, ova, Gb, Hp, ovb, ta, tb, h1, h2, h3, h4, h5, h6⟩, h7, h8, h9, h10⟩ := h
  have hEv : Ev B w Ad := ⟨W, hE, h9.1, h10⟩
  refine (flush_any h1 hEv (by show ta + La.length ≤ 900; omega) (by show a1.n + (La.length : Int) ≤ 1073741824; omega)).mono ?_
  rintro e w' ⟨rfl, G', H', ov', p, s2⟩
  obtain ⟨q1, q2, q3, q4⟩ := tq_one (sb := sb) h2 h5 h6 h7 s2
  exact ⟨rfl, ⟨G', H', ov', Gb, Hp, ovb, _, tb, p, q1, by show ta + La.length ≤ _; omega, by omega, q2, q3⟩, q4, h8, h9, h10.trans ((s2.bel h1).mono h9.1)⟩
/-- The first is flushed; a block that is new stays. -/
theorem tq_flush1n {w2 : World} {rb : Nat} {c : Array Value} {e : TypeId} (h : TQ B B2 W wa wb oa ob kva kvb k k' sb La Lb a1 a2 gb d f n w) (hn : n + La.length ≤ 200) (ha : a1.n ≤ 1000) (hl : La.length ≤ 200) (hE : Env8 W Ad) (hb : Below w.heap.size w w2) (hr : w2.heap[rb]? = some (.cells c e (0, 0))) (hrb : w.heap.size ≤ rb) :
    Calls Tryz.prog 17 #[.pointer (some ⟨oa, 0, none⟩), .pointer (some ⟨wa, 0, none⟩)] w2 (fun e' w' => e' = .returned (.tuple #[.agg #[.int .i64 (((runA k a1 La).d : Nat) : Int), .int .i64 (((runA k a1 La).f : Nat) : Int)], .nilIface]) ∧ TQ B B2 W wa wb oa ob kva kvb k k' sb [] Lb (runA k a1 La).a a2 gb d f (n + La.length) w' ∧ w'.heap[rb]? = some (.cells c e (0, 0))) := by
  obtain ⟨⟨Ga, Ho, ova, Gb, Hp, ovb, ta, tb, h1, h2, h3, h4, h5, h6⟩, h7, h8, h9, h10⟩ := h
  have g0 : Ga rb = 0 ∧ Ho rb = 0 := ⟨Classical.byContradiction fun q => by have := (h1.wa.fin _ q).2; omega, Classical.byContradiction fun q => by have := (h1.oz.fin _ q).2; omega⟩
  have h1' := h1.later hb
  have h2' := h2.later hb
  have h7' := blk_seen hb (Nat.le_refl _) h7
  have h10' := h10.trans (hb.mono h10.size)
  have hEv : Ev B w2 Ad := ⟨W, hE, h9.1, h10'⟩
  refine (flush_any h1' hEv (by show ta + La.length ≤ 900; omega) (by show a1.n + (La.length : Int) ≤ 1073741824; omega)).mono ?_
  rintro e w' ⟨rfl, G', H', ov', p, s2⟩
  obtain ⟨q1, q2, q3, q4⟩ := tq_one (sb := sb) h2' h5 h6 h7' s2
  exact ⟨rfl, ⟨⟨G', H', ov', Gb, Hp, ovb, _, tb, p, q1, by show ta + La.length ≤ _; omega, by omega, q2, q3⟩, q4, h8, h9, h10'.trans ((s2.bel h1').mono h9.1)⟩, s2.st.at hr fun q => by rcases q with q | q; exact q g0.1; exact q g0.2⟩
/-- What was counted is written. -/
theorem TQ.put (h : TQ B B2 W wa wb oa ob kva kvb k k' sb La Lb a1 a2 gb d f n w) (d' f' : Nat) : TQ B B2 W wa wb oa ob kva kvb k k' sb La Lb a1 a2 gb d' f' n (Bd.put2 w sb (d' : Int) (f' : Int)) := by
  obtain ⟨⟨Ga, Ho, ova, Gb, Hp, ovb, ta, tb, h1, h2, h3, h4, h5, h6⟩, h7, h8, h9, h10⟩ := h
  have st := Bd.put2_st w sb (d' : Int) (f' : Int)
  exact ⟨⟨Ga, Ho, ova, Gb, Hp, ovb, ta, tb, h1.beside st (fun j hj e => hj (by rw [e]; exact h6.1)) (fun j hj e => hj (by rw [e]; exact h6.2.1)), h2.beside st (fun j hj e => hj (by rw [e]; exact h6.2.2.1)) (fun j hj e => hj (by rw [e]; exact h6.2.2.2)), h3, h4, h5, h6⟩, Bd.put2_blk h7 _ _, h8, h9, h10.trans (st.below (fun j e => by omega) h10.size)⟩
/-- Where the walk begins. -/
theorem TQ.first {B3 B4 : Nat} {w3 w5 w7 w9 w10 : World} {Ga Gb Ho Hp : Wo.Own} (hwa : Wa B Ga w3 wa k 0 aw0) (hwb : Wa B2 Gb w5 wb k' 0 aw0) (hoa : Oz B3 Ho w7 oa kva (.slice none 0 0) ⟨small3, 64, [], 0, 0⟩) (hob : Oz B4 Hp w9 ob kvb (.slice none 0 0) ⟨small3, 64, [], 0, 0⟩)
    (b35 : Below w3.heap.size w3 w5) (b57 : Below w5.heap.size w5 w7) (b79 : Below w7.heap.size w7 w9) (b910 : Below w9.heap.size w9 w10) (h1 : w3.heap.size ≤ B2) (h2 : w5.heap.size ≤ B3) (h3 : w7.heap.size ≤ B4) (c1 : k.x.cs = small3) (c2 : k'.x.cs = small3) (hs : w10.heap[w9.heap.size]? = some (.cells #[.int .i64 0, .int .i64 0] 55 (0, 0))) (low : W.heap.size ≤ B) (bel : Below W.heap.size W w9) :
    TQ B B2 W wa wb oa ob kva kvb k k' w9.heap.size [] [] aw0 aw0 0 0 0 0 w10 := by
  have s35 := b35.size
  have s57 := b57.size
  have s79 := b79.size
  have b39 : Below w3.heap.size w3 w9 := b35.trans ((b57.trans (b79.mono s57)).mono s35)
  have b59 : Below w5.heap.size w5 w9 := b57.trans (b79.mono s57)
  have p1 := Pr.made hwa b39 (hoa.later b79) (by omega) c1
  have p2 := Pr.made hwb b59 hob (by omega) c2
  refine ⟨⟨Ga, Ho, _, Gb, Hp, _, 0, 0, p1.later b910, p2.later b910, Nat.le_refl _, Nat.le_refl _, fun j hj => ?_, ?_⟩, hs, bel.size, ⟨low, by have := hwa.big; omega⟩, bel.trans (b910.mono bel.size)⟩
  · refine ⟨Classical.byContradiction fun q => ?_, Classical.byContradiction fun q => ?_⟩
    · have z := hwb.fin j q
      rcases hj with e | e
      · have := hwa.fin j e; omega
      · have := hoa.fin j e; omega
    · have z := hob.fin j q
      rcases hj with e | e
      · have := hwa.fin j e; omega
      · have := hoa.fin j e; omega
  · refine ⟨Classical.byContradiction fun q => ?_, Classical.byContradiction fun q => ?_, Classical.byContradiction fun q => ?_, Classical.byContradiction fun q => ?_⟩
    · have := hwa.fin _ q; omega
    · have := hoa.fin _ q; omega
    · have := hwb.fin _ q; omega
    · have := hob.fin _ q; omega
/-- What is read of both worlds. -/
theorem tq_state1 (h : TQ B B2 W wa wb oa ob kva kvb k k' sb La Lb a1 a2 gb d f n w) :
    Calls Tryz.prog 30 #[.pointer (some ⟨wa, 0, none⟩)] w (fun e w' => ∃ ba bn bc ra rn rc, e = .returned (.agg #[.int .i64 a1.fr, .int .i64 a1.n, .int .i64 a1.sd, .slice ba bn bc, .slice ra rn rc]) ∧ (∃ E, Wo.Bes w.heap.size w' (.slice ba bn bc) E (Wo.stL small3 a1.L)) ∧ Wo.NumO w.heap.size w' (.slice ra rn rc) a1.gl ∧ Below w.heap.size w w') := by
  obtain ⟨⟨Ga, Ho, ova, Gb, Hp, ovb, ta, tb, h1, h2, -⟩, -⟩ := h
  have hc : k.x.cs = small3 := h1.cs
  have := Wo.state_any h1.wa fun x hx => Nat.le_trans (rows_few h1.wa x hx) (by decide)
  rw [hc] at this
  exact this
theorem tq_state2 (h : TQ B B2 W wa wb oa ob kva kvb k k' sb La Lb a1 a2 gb d f n w) :
    Calls Tryz.prog 30 #[.pointer (some ⟨wb, 0, none⟩)] w (fun e w' => ∃ ba bn bc ra rn rc, e = .returned (.agg #[.int .i64 a2.fr, .int .i64 a2.n, .int .i64 a2.sd, .slice ba bn bc, .slice ra rn rc]) ∧ (∃ E, Wo.Bes w.heap.size w' (.slice ba bn bc) E (Wo.stL small3 a2.L)) ∧ Wo.NumO w.heap.size w' (.slice ra rn rc) a2.gl ∧ Below w.heap.size w w') := by
  obtain ⟨⟨Ga, Ho, ova, Gb, Hp, ovb, ta, tb, h1, h2, -⟩, -⟩ := h
  have hc : k'.x.cs = small3 := h2.cs
  have := Wo.state_any h2.wa fun x hx => Nat.le_trans (rows_few h2.wa x hx) (by decide)
  rw [hc] at this
  exact this
theorem tq_count1 (h : TQ B B2 W wa wb oa ob kva kvb k k' sb La Lb a1 a2 gb d f n w) : Calls Tryz.prog 26 #[.pointer (some ⟨wa, 0, none⟩)] w (fun e w' => e = .returned (.int .i64 (a1.L.length : Int)) ∧ w' = w) := by
  obtain ⟨⟨Ga, Ho, ova, Gb, Hp, ovb, ta, tb, h1, h2, -⟩, -⟩ := h
  exact Wo.count_any h1.wa
theorem tq_count2 (h : TQ B B2 W wa wb oa ob kva kvb k k' sb La Lb a1 a2 gb d f n w) : Calls Tryz.prog 26 #[.pointer (some ⟨wb, 0, none⟩)] w (fun e w' => e = .returned (.int .i64 (a2.L.length : Int)) ∧ w' = w) := by
  obtain ⟨⟨Ga, Ho, ova, Gb, Hp, ovb, ta, tb, h1, h2, -⟩, -⟩ := h
  exact Wo.count_any h2.wa
theorem tq_few (h : TQ B B2 W wa wb oa ob kva kvb k k' sb La Lb a1 a2 gb d f n w) : a1.L.length ≤ 64 ∧ (∀ x ∈ a1.L, x.2.length ≤ 16) ∧ a1.gl.length ≤ 64 := by
  obtain ⟨⟨Ga, Ho, ova, Gb, Hp, ovb, ta, tb, h1, h2, -⟩, -⟩ := h
  refine ⟨h1.wa.few, rows_few h1.wa, ?_⟩
  obtain ⟨⟨p, q1, q2, q3, q4, q5, q6, q7, q8, q9⟩, -⟩ := h1.wa
  obtain ⟨mb, v, g1, -⟩ := q1.z.gd
  rw [← q9]
  exact Nat.le_trans g1.few (by decide)
end
end Go.Proofs.YthadfdbkkmmgoaaGreatDoor.Or
namespace Go.Proofs.YthadfdbkkmmgoaaGreatDoor.Dw
open Go.RowKit Go.Shelf Go.Maps
open Go.Proofs.YthadfdbkkmmgoaaGreatDoor.At (St bAl cell_blk blk_seen blk_free)
open Go.Proofs.YthadfdbkkmmgoaaGreatDoor.Rs (Prt Prts PRow)
open Go.Proofs.YthadfdbkkmmgoaaGreatDoor.Sc (Cmp CmpRow)
open Go.Proofs.YthadfdbkkmmgoaaGreatDoor.Wo (Bgs BeR NumO NumR st_mono)
/-- The blocks of a set, and all that came between two worlds. -/
def win (S : Nat → Prop) (W W' : World) : Nat → Prop := fun j => S j ∨ (W.heap.size ≤ j ∧ j < W'.heap.size)
theorem win_mono {S : Nat → Prop} {W W' : World} {j : Nat} (h : S j) : win S W W' j := .inl h
/-- Parts whose block is of the set. -/
def PS (S : Nat → Prop) (W : World) (v : Value) (l : List Prt) : Prop := Prts 0 W v l ∧ ∀ y, v.ownBlock = some y → S y
/-- Beings whose blocks are of the set. -/
structure RB (S : Nat → Prop) (W : World) (v : Value) (L : Bgs) : Prop where
  ex : ∃ E : List (Int × Value), BeR 0 W v E ∧ E.length = L.length ∧ ∀ (j : Nat) id pv, E[j]? = some (id, pv) → ∃ ps, L[j]? = some (id, ps) ∧ PS S W pv ps
  own : ∀ y, v.ownBlock = some y → S y
/-- Numbers whose block is of the set. -/
def NS (S : Nat → Prop) (W : World) (v : Value) (l : List Int) : Prop := NumO 0 W v l ∧ ∀ y, v.ownBlock = some y → S y
section
variable {S S' T : Nat → Prop} {W W' : World} {v : Value} {L : Bgs} {l : List Prt} {xs : List Int}
theorem PS.kept (h : PS S W v l) (hs : St T W W') (hT : ∀ y, S y → ¬ T y) : PS S W' v l := ⟨So.own_kept h.1 hs fun y hy => hT y (h.2 y hy), h.2⟩
theorem PS.mono (h : PS S W v l) (hS : ∀ y, S y → S' y) : PS S' W v l := ⟨h.1, fun y hy => hS y (h.2 y hy)⟩
theorem PS.later (h : PS S W v l) (hb : Below W.heap.size W W') : PS S W' v l := ⟨h.1.later hb, h.2⟩
theorem PS.new {N : Nat} (h : Prts N W' v l) (hN : W.heap.size ≤ N) : PS (win S W W') W' v l := ⟨h.lower (Nat.zero_le _), fun y hy => .inr (by have := h.lt y hy; omega)⟩
theorem NS.kept (h : NS S W v xs) (hs : St T W W') (hT : ∀ y, S y → ¬ T y) : NS S W' v xs := ⟨So.own_kept h.1 hs fun y hy => hT y (h.2 y hy), h.2⟩
theorem NS.mono (h : NS S W v xs) (hS : ∀ y, S y → S' y) : NS S' W v xs := ⟨h.1, fun y hy => hS y (h.2 y hy)⟩
theorem RB.kept (h : RB S W v L) (hs : St T W W') (hT : ∀ y, S y → ¬ T y) : RB S W' v L := by
  obtain ⟨⟨E, h1, h2, h3⟩, h4⟩ := h
  exact ⟨⟨E, h1.kept hs fun y hy => hT y (h4 y hy), h2, fun j id pv hj => by obtain ⟨ps, q1, q2⟩ := h3 j id pv hj; exact ⟨ps, q1, q2.kept hs hT⟩⟩, h4⟩
theorem RB.mono (h : RB S W v L) (hS : ∀ y, S y → S' y) : RB S' W v L := by
  obtain ⟨⟨E, h1, h2, h3⟩, h4⟩ := h
  exact ⟨⟨E, h1, h2, fun j id pv hj => by obtain ⟨ps, q1, q2⟩ := h3 j id pv hj; exact ⟨ps, q1, q2.mono hS⟩⟩, fun y hy => hS y (h4 y hy)⟩
theorem RB.later (h : RB S W v L) (hb : Below W.heap.size W W') : RB S W' v L := by
  obtain ⟨⟨E, h1, h2, h3⟩, h4⟩ := h
  exact ⟨⟨E, h1.later hb, h2, fun j id pv hj => by obtain ⟨ps, q1, q2⟩ := h3 j id pv hj; exact ⟨ps, q1, q2.later hb⟩⟩, h4⟩
theorem RB.slice (h : RB S W v L) : ∃ a c, v = .slice a L.length c := by
  obtain ⟨⟨E, h1, h2, h3⟩, h4⟩ := h
  obtain ⟨a, c, e⟩ := h1.slice
  exact ⟨a, c, by rw [e, h2]⟩
theorem RB.nil (S : Nat → Prop) (W : World) : RB S W (.slice none 0 0) [] := ⟨⟨[], World.ownsRow_nil _ _ _ _, rfl, fun j id pv hj => by simp at hj⟩, fun y hy => by simp [Value.ownBlock] at hy⟩
theorem RB.at {a : Option Addr} {n c : Nat} (h : RB S W (.slice a n c) L) {j : Nat} {id : Int} {ps : List Prt} (hj : L[j]? = some (id, ps)) : ∃ g pv, a = some ⟨g, 0, none⟩ ∧ W.cell? ⟨g, j * 2, none⟩ = some (.int .i64 id) ∧ W.cell? ⟨g, j * 2 + 1, none⟩ = some pv ∧ PS S W pv ps := by
  obtain ⟨⟨E, h1, h2, h3⟩, h4⟩ := h
  have hlt := (List.getElem?_eq_some_iff.1 hj).1
  obtain ⟨⟨id', pv⟩, hE⟩ := at_lt E j (by omega)
  obtain ⟨ps', q1, q2⟩ := h3 j id' pv hE
  obtain ⟨rfl, rfl⟩ : id = id' ∧ ps = ps' := by rw [hj] at q1; simpa using q1
  obtain ⟨g, e, c0, c1⟩ := h1.at hE
  exact ⟨g, pv, e, c0, c1, q2⟩
end
/-- The document's world. -/
structure DW where
  cs : List Cmp
  most : Nat
  L : Bgs
  fr : Int
  n : Int
  sd : Int
  gl : List Int
def dbox (va vb lv gv : Value) (x : DW) : Array Value := #[va, vb, .int .i64 (x.most : Int), lv, .int .i64 x.fr, .int .i64 x.n, .int .i64 x.sd, gv, .slice none 0 0, .bool false]
/-- It lies behind Z, where the schema came in. -/
structure Dm (Z : World) (S : Nat → Prop) (W : World) (b : Nat) (va vb lv gv : Value) (x : DW) : Prop where
  box : W.heap[b]? = some (.cells (dbox va vb lv gv x) 71 (0, 0))
  inb : S b
  fin : ∀ y, S y → Z.heap.size ≤ y ∧ y < W.heap.size
  kin : CmpRow Z va x.cs
  bel : Below Z.heap.size Z W
  few : x.cs.length ≤ 16
  be : RB S W lv x.L
  gd : NS S W gv x.gl
  l64 : x.L.length ≤ 64
section
variable {Z : World} {S S' T : Nat → Prop} {W W' : World} {b : Nat} {va vb lv gv : Value} {x : DW}
theorem Dm.cell (h : Dm Z S W b va vb lv gv x) {j : Nat} {v : Value} (hj : (dbox va vb lv gv x)[j]? = some v) : W.cell? ⟨b, j, none⟩ = some v := cell_blk h.box hj
theorem Dm.cmp (h : Dm Z S W b va vb lv gv x) : CmpRow W va x.cs := h.kin.later h.bel
theorem Dm.later (h : Dm Z S W b va vb lv gv x) (hb : Below W.heap.size W W') : Dm Z S W' b va vb lv gv x :=
  ⟨blk_seen hb (Nat.le_refl _) h.box, h.inb, fun y hy => ⟨(h.fin y hy).1, Nat.lt_of_lt_of_le (h.fin y hy).2 hb.size⟩, h.kin, h.bel.trans (hb.mono h.bel.size), h.few, h.be.later hb, ⟨h.gd.1.later hb, h.gd.2⟩, h.l64⟩
theorem Dm.more (h : Dm Z S W b va vb lv gv x) (hS : ∀ y, S y → S' y) (hf : ∀ y, S' y → Z.heap.size ≤ y ∧ y < W.heap.size) : Dm Z S' W b va vb lv gv x :=
  ⟨h.box, hS _ h.inb, hf, h.kin, h.bel, h.few, h.be.mono hS, h.gd.mono hS, h.l64⟩
theorem Dm.grown (h : Dm Z S W b va vb lv gv x) (hb : Below W.heap.size W W') : Dm Z (win S W W') W' b va vb lv gv x :=
  (h.later hb).more (fun _ => win_mono) fun y hy => by
    rcases hy with q | q
    · exact (h.later hb).fin y q
    · have := h.bel.size
      omega
/-- Others' blocks change. -/
theorem Dm.kept (h : Dm Z S W b va vb lv gv x) (hs : St T W W') (hT : ∀ y, S y → ¬ T y) (hz : ∀ y, T y → Z.heap.size ≤ y) : Dm Z S W' b va vb lv gv x :=
  ⟨hs.at h.box (hT b h.inb), h.inb, fun y hy => ⟨(h.fin y hy).1, Nat.lt_of_lt_of_le (h.fin y hy).2 hs.size⟩, h.kin, h.bel.trans (hs.below hz h.bel.size), h.few, h.be.kept hs hT, h.gd.kept hs hT, h.l64⟩
/-- A cell of its own is written. -/
theorem Dm.own {x' : DW} {lv' gv' : Value} {j : Nat} {v : Value} (h : Dm Z S W b va vb lv gv x) (hb : (dbox va vb lv gv x).setIfInBounds j v = dbox va vb lv' gv' x') (e1 : x'.cs = x.cs) (hl : RB S (W.setCell ⟨b, j, none⟩ v) lv' x'.L) (hg : NS S (W.setCell ⟨b, j, none⟩ v) gv' x'.gl) (h64 : x'.L.length ≤ 64) :
    Dm Z S (W.setCell ⟨b, j, none⟩ v) b va vb lv' gv' x' ∧ St (fun y => y = b) W (W.setCell ⟨b, j, none⟩ v) := by
  have st : St (fun y => y = b) W (W.setCell ⟨b, j, none⟩ v) := St.setCell _ rfl
  refine ⟨⟨by rw [heap_setCell_same W b j _ _ v h.box, hb], h.inb, fun y hy => ⟨(h.fin y hy).1, Nat.lt_of_lt_of_le (h.fin y hy).2 st.size⟩, by rw [e1]; exact h.kin, h.bel.trans (st.below (fun y e => by rw [e]; exact (h.fin b h.inb).1) h.bel.size), by rw [e1]; exact h.few, hl, hg, h64⟩, st⟩
/-- The rows stay when a cell of the box is written. -/
theorem Dm.rows {j : Nat} {v : Value} (h : Dm Z S W b va vb lv gv x) {lv' : Value} {L' : Bgs} (hl : RB S W lv' L') : RB S (W.setCell ⟨b, j, none⟩ v) lv' L' := by
  have st : St (fun y => y = b) W (W.setCell ⟨b, j, none⟩ v) := St.setCell _ rfl
  obtain ⟨⟨E, h1, h2, h3⟩, h4⟩ := hl
  have nb : ∀ {ty : TypeId} {c : Array Value}, W.heap[b]? = some (.cells c ty (0, 0)) → ty = 71 := fun {ty c} q => by rw [h.box] at q; simpa using (congrArg (fun o => match o with | some (.cells _ t _) => t | _ => ty) q).symm
  refine ⟨⟨E, h1.kept st fun y hy e => ?_, h2, fun j id pv hj => ?_⟩, h4⟩
  · obtain ⟨c, q⟩ := So.own_blk h1 hy
    rw [e] at q
    exact absurd (nb q) (by decide)
  · obtain ⟨ps, q1, q2⟩ := h3 j id pv hj
    refine ⟨ps, q1, So.own_kept q2.1 st fun y hy e => ?_, q2.2⟩
    obtain ⟨c, q⟩ := So.own_blk q2.1 hy
    rw [e] at q
    exact absurd (nb q) (by decide)
theorem Dm.nums {j : Nat} {v : Value} (h : Dm Z S W b va vb lv gv x) : NS S (W.setCell ⟨b, j, none⟩ v) gv x.gl := by
  have st : St (fun y => y = b) W (W.setCell ⟨b, j, none⟩ v) := St.setCell _ rfl
  refine ⟨So.own_kept h.gd.1 st fun y hy e => ?_, h.gd.2⟩
  obtain ⟨c, q⟩ := So.own_blk h.gd.1 hy
  rw [e, h.box] at q
  simp at q
/-- Where a number stands. -/
def plc (L : Bgs) (id : Int) : Nat := L.findIdx fun x => x.1 == id
def plcI (L : Bgs) (id : Int) : Int := if plc L id < L.length then (plc L id : Int) else -1
theorem plc_hit {L : Bgs} {id : Int} {k : Nat} {p : Int × List Prt} (hk : k ≤ plc L id) (hp : L[k]? = some p) (hc : p.1 = id) : plc L id = k := by
  obtain ⟨hl, rfl⟩ := List.getElem?_eq_some_iff.1 hp
  refine Nat.le_antisymm (Nat.le_of_not_lt fun q => ?_) hk
  have := List.not_of_lt_findIdx q
  simp [hc] at this
theorem plc_miss {L : Bgs} {id : Int} {k : Nat} {p : Int × List Prt} (hk : k ≤ plc L id) (hp : L[k]? = some p) (hc : ¬ p.1 = id) : k + 1 ≤ plc L id := by
  obtain ⟨hl, rfl⟩ := List.getElem?_eq_some_iff.1 hp
  refine Nat.lt_of_le_of_ne hk fun e => ?_
  have hlt : L.findIdx (fun x => x.1 == id) < L.length := by show plc L id < _; omega
  have := List.findIdx_getElem (w := hlt)
  simp only [beq_iff_eq] at this
  have e' : L.findIdx (fun x => x.1 == id) = k := e.symm
  simp only [e'] at this
  exact hc this
set_option maxHeartbeats 1600000 in
set_option maxRecDepth 100000 in
theorem at_any (h : Dm Z S W b va vb lv gv x) (id : Int) :
    Calls Tryz.prog 102 #[.pointer (some ⟨b, 0, none⟩), .int .i64 id] W fun e W' => e = .returned (.int .i64 (plcI x.L id)) ∧ W' = W := by
  have H := hid h
  obtain ⟨a, c, rfl⟩ := h.be.slice
  have hli : (x.L.length : Int) ≤ 64 := by have := h.l64; omega
  have c3 : W.cell? ⟨b, 3, none⟩ = some (.slice a x.L.length c) := h.cell (j := 3) rfl
  clear h
  go_enter Tryz.func102, Tryz.ntmps102
  go_wp2_with fail
  go_loopg [5] x.L.length (fun gh i wr => ∃ k : Nat, k ≤ x.L.length ∧ gh = x.L.length - k ∧ i = .int .i64 (k : Int) ∧ Hid (k ≤ plc x.L id) ∧ wr = W)
  case atStart => exact ⟨0, Nat.zero_le _, rfl, rfl, Nat.zero_le _, rfl⟩
  case round =>
    obtain ⟨k, hk, rfl, rfl, HK, rfl⟩ := hrel
    by_cases hlt : k < x.L.length
    · have hki : (k : Int) < (x.L.length : Int) := by omega
      obtain ⟨⟨i2, ps⟩, hp⟩ := at_lt x.L k hlt
      obtain ⟨g, pv, rfl, d0, -, -⟩ := H.out.be.at hp
      by_cases hc : i2 = id
      · have E : Hid (plcI x.L id = (k : Int)) := hid (by unfold plcI; rw [plc_hit HK.out hp hc, if_pos hlt])
        have hcb : (i2 == id) = true := by simp [hc]
        clear hp hc
        go_wp2_with fail
        go_ret
        exact ⟨by rw [E.out]; rfl, rfl⟩
      · have HK2 := hid (plc_miss HK.out hp hc)
        have hcb : (i2 == id) = false := by simp [hc]
        clear hp hc
        go_wp2_with fail
        go_roundg (x.L.length - (k + 1))
        case measure => omega
        case rel => exact ⟨k + 1, by omega, rfl, by go_num, HK2.out, rfl⟩
    · have hki : ¬ ((k : Int) < (x.L.length : Int)) := by omega
      have E : Hid (plcI x.L id = -1) := hid (by
        unfold plcI
        have := HK.out
        rw [if_neg (by omega)])
      go_wp2_with fail
      go_ret
      exact ⟨by rw [E.out]; rfl, rfl⟩
end
end Go.Proofs.YthadfdbkkmmgoaaGreatDoor.Dw
namespace Go.Proofs.YthadfdbkkmmgoaaGreatDoor.Dw
open Go.RowKit Go.Shelf Go.Maps
open Go.Proofs.YthadfdbkkmmgoaaGreatDoor.At (St bAl cell_blk blk_seen blk_free)
open Go.Proofs.YthadfdbkkmmgoaaGreatDoor.Rs (Prt Prts PRow)
open Go.Proofs.YthadfdbkkmmgoaaGreatDoor.Sc (Cmp CmpRow)
open Go.Proofs.YthadfdbkkmmgoaaGreatDoor.Wo (Bgs BeR NumO NumR st_mono beC beC_len beC_at infoBe)
section
variable {Z : World} {S S' T : Nat → Prop} {W W' : World} {b : Nat} {va vb lv gv : Value} {x : DW}
set_option maxHeartbeats 1600000 in
theorem rolled_any (h : Dm Z S W b va vb lv gv x) (c : Int) :
    Calls Tryz.prog 70 #[.pointer (some ⟨b, 0, none⟩), .int .i64 c] W fun e W' => e = .returned (.bool (Wo.rolledB x.cs c)) ∧ W' = W := by
  obtain ⟨ka, kc, e, -, hr⟩ := h.cmp
  subst e
  have c0 : W.cell? ⟨b, 0, none⟩ = some (.slice ka x.cs.length kc) := h.cell (j := 0) rfl
  have hli : (x.cs.length : Int) ≤ 16 := by have := h.few; omega
  clear h
  by_cases h0 : 0 ≤ c
  · obtain ⟨k, rfl⟩ := Int.eq_ofNat_of_zero_le h0
    by_cases h1 : k < x.cs.length
    · have h1i : (k : Int) < (x.cs.length : Int) := by omega
      obtain ⟨q, hq⟩ := at_lt x.cs k h1
      obtain ⟨kb, ko, rfl, c2⟩ : ∃ kb ko, ka = some ⟨kb, ko, none⟩ ∧ W.cell? ⟨kb, ko + k * 7 + 2, none⟩ = some (.bool q.rb) := by
        rcases hr with hr | ⟨kb, ko, e, hr⟩
        · rw [hr] at h1; simp at h1
        · exact ⟨kb, ko, e, (hr k q hq).2.2.1⟩
      have E : Hid (Wo.rolledB x.cs (k : Int) = q.rb) := hid (by unfold Wo.rolledB; rw [if_pos (by omega), Int.toNat_natCast, hq])
      clear hr hq h0
      go_enter Tryz.func70, Tryz.ntmps70
      go_wp2_with fail
      go_ret
      exact ⟨by rw [E.out]; rfl, rfl⟩
    · have h1i : ¬ (k : Int) < (x.cs.length : Int) := by omega
      have E : Hid (Wo.rolledB x.cs (k : Int) = false) := hid (by unfold Wo.rolledB; rw [if_pos (by omega), Int.toNat_natCast, List.getElem?_eq_none (by omega)])
      clear hr h0
      go_enter Tryz.func70, Tryz.ntmps70
      go_wp2_with fail
      go_ret
      exact ⟨by rw [E.out]; rfl, rfl⟩
  · have E : Hid (Wo.rolledB x.cs c = false) := hid (by unfold Wo.rolledB; rw [if_neg h0])
    clear hr
    go_enter Tryz.func70, Tryz.ntmps70
    go_wp2_with fail
    go_ret
    exact ⟨by rw [E.out]; rfl, rfl⟩
set_option maxHeartbeats 1600000 in
theorem note_any (h : Dm Z S W b va vb lv gv x) (k id c v0 v1 v2 v3 t : Int) (ad : Option Addr) (nn cc : Nat) (n o : Int) :
    Calls Tryz.prog 59 #[.pointer (some ⟨b, 0, none⟩), .agg #[.int .i64 k, .int .i64 id, .int .i64 c, .int .i64 v0, .int .i64 v1, .int .i64 v2, .int .i64 v3, .int .i64 t, .slice ad nn cc, .int .i64 n, .int .i64 o]] W fun e W' => e = .returned (.tuple #[]) ∧ Below W.heap.size W W' := by
  obtain ⟨wa, hwa⟩ : ∃ wa, wa = W.alloc (.cells #[.int .i64 k, .int .i64 id, .int .i64 c, .int .i64 v0, .int .i64 v1, .int .i64 v2, .int .i64 v3, .int .i64 t, .slice ad nn cc, .int .i64 n, .int .i64 o] 130) := ⟨_, rfl⟩
  have ba : Below W.heap.size W wa := by rw [hwa]; exact bAl _ _
  have c9 : wa.cell? ⟨b, 9, none⟩ = some (.bool false) := (h.later ba).cell (j := 9) rfl
  have HWA := hid hwa
  have BA := hid ba
  clear h hwa ba
  go_enter Tryz.func59, Tryz.ntmps59
  go_upto_region 1 with fail
  rw [← HWA.out]
  go_wp2_with fail
  go_end0
  exact ⟨rfl, BA.out⟩
end
theorem beC_app (E F : List (Int × Value)) : beC (E ++ F) = beC E ++ beC F := by unfold beC; rw [List.flatMap_append]
/-- append of a row of beings onto an owned one. -/
theorem wpList_bes (w : World) {ops : Array Oper} {rest : List Oper} {o : Oper} {a : Act} {Q : Exit → Act → World → Prop} (hgd : o.guard = none) (s x : Operand)
    (ho : o.op = .call { callee := .builtin .append, args := #[s, x], argTypes := #[67, 67] })
    (base : Nat) (v : Value) (E : List (Int × Value)) (hs : a.eval s = v) (hown : BeR base w v E)
    (g off m c : Nat) (F : List (Int × Value)) (hm : F.length = m) (hx : a.eval x = .slice (some ⟨g, off, none⟩) m c) (hrow : ∀ (j : Nat) u, (beC F)[j]? = some u → w.cell? ⟨g, off + j, none⟩ = some u) (hone : ∀ p ∈ F, p.2.oneCell' = true) (nn : Nat) (hnn : E.length + m = nn) (hlen : nn ≤ 5000) (hbase : base ≤ w.heap.size)
    (h : ∀ a' c' w', Hid (BeR base w' (.slice a' nn c') (E ++ F)) → Hid (Below base w w') → wpList Tryz.prog ops Q rest (a.put o.dst (.slice a' nn c')) w') :
    wpList Tryz.prog ops Q (o :: rest) a w := by
  subst hm
  subst hnn
  obtain ⟨i0, hi, hz0, hz1, hz2⟩ := info_parts infoBe
  refine wpList_append_own_at w hgd s x 67 ho base 133 i0 (.agg #[.int .i64 0, .slice none 0 0]) 2 32 Tryz.underlying67 hi hz0 hz1 hz2 rfl (by decide) v E.length (beC E) hs hown ⟨g, off, none⟩ F.length c (beC F) hx (beC_len F) (fun j u hu => by
    rw [Co.add_at2]
    exact hrow j u hu) (fun u hu => by
      obtain ⟨p, hp, q⟩ := List.mem_flatMap.1 hu
      simp [Wo.beA] at q
      rcases q with rfl | rfl
      · rfl
      · exact hone p hp) (by simp [maxLen]; omega) (by omega) hbase ?_
  intro v' w' hown' hgrow _ _
  rw [← beC_app] at hown'
  have e : E.length + F.length = (E ++ F).length := by simp
  have hown2 : BeR base w' v' (E ++ F) := by
    show World.ownsRow _ _ _ _ _ _ _
    rw [← e]
    exact hown'
  obtain ⟨a', c', ev⟩ := hown2.slice
  rw [← e] at ev
  subst ev
  exact h a' c' w' hown2 ((Below.refl _ _).grown hgrow hbase (fun k hk => own_block hown hk))
end Go.Proofs.YthadfdbkkmmgoaaGreatDoor.Dw
namespace Go.Proofs.YthadfdbkkmmgoaaGreatDoor.Dw
open Go.RowKit Go.Shelf Go.Maps
open Go.Proofs.YthadfdbkkmmgoaaGreatDoor.At (St bAl cell_blk blk_seen blk_free)
open Go.Proofs.YthadfdbkkmmgoaaGreatDoor.Rs (Prt Prts PRow)
open Go.Proofs.YthadfdbkkmmgoaaGreatDoor.Sc (Cmp CmpRow)
open Go.Proofs.YthadfdbkkmmgoaaGreatDoor.Wo (Bgs BeR NumO NumR st_mono beC beC_len beC_at)
theorem bes_lit (W : World) : BeR W.heap.size (W.alloc (.cells #[] 133)) (.slice (some ⟨W.heap.size, 0, none⟩) 0 0) [] :=
  World.ownsRow_lit (base := W.heap.size) (e := 133) (size := 2) W #[] 0 (Nat.le_refl _) (Nat.zero_le _) rfl
/-- The cells of a row that is owned. -/
theorem be_cells {N : Nat} {W : World} {g n c : Nat} {E : List (Int × Value)} (h : BeR N W (.slice (some ⟨g, 0, none⟩) n c) E) (j : Nat) (u : Value) (hj : (beC E)[j]? = some u) : W.cell? ⟨g, j, none⟩ = some u := by
  have hl := (List.getElem?_eq_some_iff.1 hj).1
  rw [beC_len] at hl
  obtain ⟨rfl, -⟩ := h.blk
  exact (World.ownsRow.cellAt h j (by omega)).trans hj
theorem beC_take : ∀ (E : List (Int × Value)) (i : Nat), beC (E.take i) = (beC E).take (i * 2)
  | [], i => by simp [beC]
  | x :: E, 0 => by simp [beC]
  | x :: E, i + 1 => by rw [List.take_succ_cons, Wo.beC_cons, Wo.beC_cons, beC_take E i, show (i + 1) * 2 = i * 2 + 1 + 1 by omega]; simp
theorem beC_drop : ∀ (E : List (Int × Value)) (i : Nat), beC (E.drop i) = (beC E).drop (i * 2)
  | [], i => by simp [beC]
  | x :: E, 0 => by simp [beC]
  | x :: E, i + 1 => by rw [List.drop_succ_cons, Wo.beC_cons, beC_drop E i, show (i + 1) * 2 = i * 2 + 1 + 1 by omega]; simp
section
variable {Z : World} {S S' T : Nat → Prop} {W W' : World} {b : Nat} {va vb lv gv : Value} {x : DW}
/-- Beings of the same rows, one less. -/
theorem RB.erase {E : List (Int × Value)} {L : Bgs} {v' : Value} {i : Nat} (h2 : E.length = L.length) (h3 : ∀ (j : Nat) id pv, E[j]? = some (id, pv) → ∃ ps, L[j]? = some (id, ps) ∧ PS S W' pv ps) (h1 : BeR 0 W' v' (E.eraseIdx i)) (h4 : ∀ y, v'.ownBlock = some y → S y) : RB S W' v' (L.eraseIdx i) := by
  refine ⟨⟨_, h1, by rw [List.length_eraseIdx, List.length_eraseIdx, h2], fun j id pv hj => ?_⟩, h4⟩
  rw [List.getElem?_eraseIdx] at hj ⊢
  by_cases e : j < i
  · rw [if_pos e] at hj ⊢; exact h3 j id pv hj
  · rw [if_neg e] at hj ⊢; exact h3 (j + 1) id pv hj
theorem RB.set {E : List (Int × Value)} {L : Bgs} {v' pv' : Value} {i : Nat} {id : Int} {pv : Value} {ps' : List Prt} (h2 : E.length = L.length) (h3 : ∀ (j : Nat) id pv, E[j]? = some (id, pv) → ∃ ps, L[j]? = some (id, ps) ∧ PS S W' pv ps) (hi : E[i]? = some (id, pv)) (hp : PS S W' pv' ps') (h1 : BeR 0 W' v' (E.set i (id, pv'))) (h4 : ∀ y, v'.ownBlock = some y → S y) : RB S W' v' (L.set i (id, ps')) := by
  refine ⟨⟨_, h1, by rw [List.length_set, List.length_set, h2], fun j id2 pv2 hj => ?_⟩, h4⟩
  have hil := (List.getElem?_eq_some_iff.1 hi).1
  by_cases e : j = i
  · subst e
    rw [List.getElem?_set_self hil] at hj
    obtain ⟨rfl, rfl⟩ : id = id2 ∧ pv' = pv2 := by simpa using hj
    exact ⟨ps', by rw [List.getElem?_set_self (by omega)], hp⟩
  · rw [List.getElem?_set_ne (fun q => e q.symm)] at hj ⊢
    exact h3 j id2 pv2 hj
set_option maxHeartbeats 3200000 in
set_option maxRecDepth 100000 in
theorem drop_any (h : Dm Z S W b va vb lv gv x) (i : Nat) (hi : i < x.L.length) :
    Calls Tryz.prog 103 #[.pointer (some ⟨b, 0, none⟩), .int .i64 (i : Int)] W fun e W' => e = .returned (.tuple #[]) ∧ (∃ lv', Dm Z (win S W W') W' b va vb lv' gv { x with L := x.L.eraseIdx i }) ∧ St (fun y => y = b) W W' := by
  have H := hid h
  obtain ⟨⟨E, e1, e2, e3⟩, e4⟩ := h.be
  have h64 := h.l64
  obtain ⟨g, c, rfl⟩ : ∃ g c, lv = .slice (some ⟨g, 0, none⟩) x.L.length c := by
    obtain ⟨g, c, e, -⟩ := World.ownsRow.form (e1 : World.ownsRow _ _ _ _ _ _ _) (by omega)
    exact ⟨g, c, by rw [e, e2]⟩
  obtain ⟨hn, -, cur, hcur, hcap, -⟩ := e1.blk
  have CL := hid (be_cells e1)
  have b1 := bAl W (.cells #[] 133)
  have c3 : (W.alloc (.cells #[] 133)).cell? ⟨b, 3, none⟩ = some (.slice (some ⟨g, 0, none⟩) x.L.length c) := (h.later b1).cell (j := 3) rfl
  have c30 : W.cell? ⟨b, 3, none⟩ = some (.slice (some ⟨g, 0, none⟩) x.L.length c) := h.cell (j := 3) rfl
  have LI := hid (bes_lit W)
  have hii : (i : Int) < (x.L.length : Int) := by omega
  have hnc : (x.L.length : Int) ≤ (c : Int) := by omega
  have hli : (x.L.length : Int) ≤ 64 := by omega
  have E2 := hid e2
  have ONE : Hid (∀ p ∈ E, p.2.oneCell' = true) := hid fun p hp => by
    obtain ⟨j, hj⟩ := List.getElem?_of_mem hp
    obtain ⟨ps, -, q, -⟩ := e3 j p.1 p.2 hj
    obtain ⟨a', c', e⟩ := q.slice
    rw [e]; rfl
  have hm1 : (E.take i).length = i := by rw [List.length_take]; omega
  have hrow1 : ∀ (j : Nat) u, (beC (E.take i))[j]? = some u → (W.alloc (.cells #[] 133)).cell? ⟨g, 0 + j, none⟩ = some u := fun j u hj => by
    rw [beC_take] at hj
    rw [Nat.zero_add]
    refine At.seen b1 (Nat.le_refl _) (CL.out j u ?_)
    have hl := (List.getElem?_eq_some_iff.1 hj).1
    rw [List.length_take] at hl
    rw [List.getElem?_take_of_lt (by omega)] at hj
    exact hj
  have hone1 : ∀ p ∈ E.take i, p.2.oneCell' = true := fun p hp => ONE.out p (List.mem_of_mem_take hp)
  have hlen1 : i ≤ 5000 := by omega
  have hz1 : W.heap.size ≤ (W.alloc (.cells #[] 133)).heap.size := by simp
  have HM1 := hid hm1
  have HR1 := hid hrow1
  have HO1 := hid hone1
  have HL1 := hid hlen1
  have B1 := hid b1
  have DR : Hid (∀ v' c' w3, BeR W.heap.size w3 (.slice v' (x.L.length - 1) c') (E.eraseIdx i) → Below W.heap.size W w3 → Dm Z (win S W (w3.setCell ⟨b, 3, none⟩ (.slice v' (x.L.length - 1) c'))) (w3.setCell ⟨b, 3, none⟩ (.slice v' (x.L.length - 1) c')) b va vb (.slice v' (x.L.length - 1) c') gv { x with L := x.L.eraseIdx i } ∧ St (fun y => y = b) W (w3.setCell ⟨b, 3, none⟩ (.slice v' (x.L.length - 1) c'))) := hid fun v' c' w3 hw hb => by
    have D3 := H.out.grown hb
    have hrb : RB (win S W w3) w3 (.slice v' (x.L.length - 1) c') (x.L.eraseIdx i) := RB.erase e2 (fun j id pv hj => by
      obtain ⟨ps, q1, q2⟩ := e3 j id pv hj
      exact ⟨ps, q1, (q2.later hb).mono fun _ => win_mono⟩) ⟨hw.1, hw.2.elim .inl fun ⟨g, cap, cur, h1, h2, h3⟩ => .inr ⟨g, cap, cur, h1, Nat.zero_le _, h3⟩⟩ (fun y hy => .inr (World.ownsRow.lt hw y hy))
    obtain ⟨q1, q2⟩ := D3.own (x' := { x with L := x.L.eraseIdx i }) (lv' := .slice v' (x.L.length - 1) c') (gv' := gv) (j := 3) (v := .slice v' (x.L.length - 1) c') rfl rfl (D3.rows hrb) D3.nums (by show (x.L.eraseIdx i).length ≤ 64; have := List.length_eraseIdx_le x.L i; omega)
    have es : (w3.setCell ⟨b, 3, none⟩ (.slice v' (x.L.length - 1) c')).heap.size = w3.heap.size := by simp
    refine ⟨?_, (St.of_below (S := fun y => y = b) hb).trans q2 fun _ _ q => q⟩
    unfold win at q1 ⊢
    rw [es]
    exact q1
  have f3 := hid fun (w : World) (hb : Below W.heap.size W w) => blk_free (H.out.later hb).box 3
  have C3 := hid fun (w : World) (hb : Below W.heap.size W w) => (H.out.later hb).cell (j := 3) rfl
  clear h e1 e2 e3 e4 hcur b1 hm1 hrow1 hone1 hlen1 H hn hcap
  by_cases hci : c = i + 1
  · have hn1 : x.L.length = i + 1 := by omega
    subst hci
    have E2n : Hid (E.length = i + 1) := hid (E2.out.trans hn1)
    have C3n : Hid (∀ w, Below W.heap.size W w → w.cell? ⟨b, 3, none⟩ = some (.slice (some ⟨g, 0, none⟩) (i + 1) (i + 1))) := hid fun w hb => by
      have q := C3.out w hb
      change w.cell? _ = some (.slice (some ⟨g, 0, none⟩) x.L.length (i + 1)) at q
      rw [hn1] at q
      exact q
    rw [hn1] at DR c3 c30
    clear C3 E2
    clear hn1 hii hnc hli hi h64
    have hi500 : i ≤ 5000 := HL1.out
    have hii : (i : Int) ≤ 5000 := by omega
    go_enter Tryz.func103, Tryz.ntmps103
    go_upto_region 1 with (at_builtin; refine wpList_bes _ rfl (.tmp 5) (.tmp 11) rfl W.heap.size _ [] rfl LI.out g 0 i (i + 1) (E.take i) HM1.out rfl HR1.out HO1.out i (Nat.zero_add i) HL1.out hz1 ?_; intro a1 c1 w2 HW2 HB2)
    have hw2 : BeR W.heap.size w2 (.slice a1 i c1) (E.take i) := by have := HW2.out; simpa using this
    have b2 := B1.out.trans HB2.out
    have HB := hid b2
    have c32 : w2.cell? ⟨b, 3, none⟩ = some (.slice (some ⟨g, 0, none⟩) (i + 1) (i + 1)) := C3n.out w2 b2
    have f32 := f3.out w2 b2
    have HI : Hid (i ≤ 5000) := hid hi500
    have HER : Hid (E.take i = E.eraseIdx i) := hid (by
      rw [List.eraseIdx_eq_take_drop_succ, List.drop_eq_nil_of_le (by rw [E2n.out]; exact Nat.le_refl _), List.append_nil])
    have hz2 : W.heap.size ≤ w2.heap.size := b2.size
    have HX2 := hid hw2
    clear HW2 HB2 hw2 c3 c30 b2
    go_wp2_with (at_builtin; refine wpList_bes _ rfl (.tmp 14) (.tmp 21) rfl W.heap.size _ (E.take i) rfl HX2.out g 0 0 0 [] rfl rfl (fun j u hj => by simp [Wo.beC] at hj) (fun p hp => by simp at hp) i HM1.out HI.out hz2 ?_; intro a2 c2 w3 HW3 HB3; have c33 : w3.cell? ⟨b, 3, none⟩ = some (.slice (some ⟨g, 0, none⟩) (i + 1) (i + 1)) := C3n.out w3 (HB.out.trans HB3.out); have f33 : w3.frozen? ⟨b, 3, none⟩ = false := f3.out w3 (HB.out.trans HB3.out))
    have HB3' := hid (HB.out.trans HB3.out)
    have HW3' : Hid (BeR W.heap.size w3 (.slice a2 (i + 1 - 1) c2) (E.eraseIdx i)) := hid (by
      have := HW3.out
      rw [List.append_nil, HER.out] at this
      exact this)
    have FIN := hid (DR.out a2 c2 w3 HW3'.out HB3'.out)
    go_end0
    exact ⟨rfl, ⟨_, FIN.out.1⟩, FIN.out.2⟩
  · have hci' : ¬ (c : Int) = (i : Int) + 1 := by omega
    go_enter Tryz.func103, Tryz.ntmps103
    go_upto_region 1 with (at_builtin; refine wpList_bes _ rfl (.tmp 5) (.tmp 11) rfl W.heap.size _ [] rfl LI.out g 0 i c (E.take i) HM1.out rfl HR1.out HO1.out i (Nat.zero_add i) HL1.out hz1 ?_; intro a1 c1 w2 HW2 HB2)
    have hw2 : BeR W.heap.size w2 (.slice a1 i c1) (E.take i) := by have := HW2.out; simpa using this
    have b2 := B1.out.trans HB2.out
    have HB := hid b2
    have c32 : w2.cell? ⟨b, 3, none⟩ = some (.slice (some ⟨g, 0, none⟩) x.L.length c) := C3.out w2 b2
    have f32 := f3.out w2 b2
    have HM2 : Hid ((E.drop (i + 1)).length = x.L.length - (i + 1)) := hid (by rw [List.length_drop, E2.out])
    have HR2 : Hid (∀ (j : Nat) u, (beC (E.drop (i + 1)))[j]? = some u → w2.cell? ⟨g, (i + 1) * 2 + j, none⟩ = some u) := hid fun j u hj => by
      rw [beC_drop, List.getElem?_drop] at hj
      exact At.seen b2 (Nat.le_refl _) (CL.out _ u hj)
    have HO2 : Hid (∀ p ∈ E.drop (i + 1), p.2.oneCell' = true) := hid fun p hp => ONE.out p (List.mem_of_mem_drop hp)
    have HL2 : Hid (x.L.length - 1 ≤ 5000) := hid (by show _ ≤ _; omega)
    have hz2 : W.heap.size ≤ w2.heap.size := b2.size
    have HX2 := hid hw2
    have HSUM : Hid ((E.take i).length + (x.L.length - (i + 1)) = x.L.length - 1) := hid (by rw [HM1.out]; omega)
    clear HW2 HB2 hw2 c3 c30 b2
    go_wp2_with (at_builtin; refine wpList_bes _ rfl (.tmp 14) (.tmp 21) rfl W.heap.size _ (E.take i) rfl HX2.out g ((i + 1) * 2) (x.L.length - (i + 1)) (c - (i + 1)) (E.drop (i + 1)) HM2.out rfl HR2.out HO2.out (x.L.length - 1) HSUM.out HL2.out hz2 ?_; intro a2 c2 w3 HW3 HB3; have c33 : w3.cell? ⟨b, 3, none⟩ = some (.slice (some ⟨g, 0, none⟩) x.L.length c) := C3.out w3 (HB.out.trans HB3.out); have f33 : w3.frozen? ⟨b, 3, none⟩ = false := f3.out w3 (HB.out.trans HB3.out))
    have HB3' := hid (HB.out.trans HB3.out)
    have HW3' : Hid (BeR W.heap.size w3 (.slice a2 (x.L.length - 1) c2) (E.eraseIdx i)) := hid (by
      have := HW3.out
      rw [← List.eraseIdx_eq_take_drop_succ] at this
      exact this)
    have FIN := hid (DR.out a2 c2 w3 HW3'.out HB3'.out)
    go_end0
    exact ⟨rfl, ⟨_, FIN.out.1⟩, FIN.out.2⟩
end
end Go.Proofs.YthadfdbkkmmgoaaGreatDoor.Dw
namespace Go.Proofs.YthadfdbkkmmgoaaGreatDoor.Dw
open Go.RowKit Go.Shelf Go.Maps
open Go.Proofs.YthadfdbkkmmgoaaGreatDoor.At (St bAl cell_blk blk_seen blk_free)
open Go.Proofs.YthadfdbkkmmgoaaGreatDoor.Rs (Prt Prts PRow ix ixI)
open Go.Proofs.YthadfdbkkmmgoaaGreatDoor.Sc (Cmp CmpRow)
open Go.Proofs.YthadfdbkkmmgoaaGreatDoor.Wo (Bgs BeR NumO NumR st_mono beC beC_len beC_at)
section
variable {Z : World} {S S' T : Nat → Prop} {W W' : World} {b : Nat} {va vb lv gv : Value} {x : DW}
set_option maxHeartbeats 3200000 in
set_option maxRecDepth 100000 in
theorem put_any (h : Dm Z S W b va vb lv gv x) (i : Nat) (id : Int) (ps ps' : List Prt) (hi : x.L[i]? = some (id, ps)) (pv' : Value) (hp : PS S W pv' ps') :
    Calls Tryz.prog 105 #[.pointer (some ⟨b, 0, none⟩), .int .i64 (i : Int), pv'] W fun e W' => e = .returned (.tuple #[]) ∧ (∃ lv', Dm Z (win S W W') W' b va vb lv' gv { x with L := x.L.set i (id, ps') }) ∧ St (fun y => y = b) W W' := by
  have H := hid h
  obtain ⟨⟨E, e1, e2, e3⟩, e4⟩ := h.be
  have h64 := h.l64
  have hil : i < x.L.length := (List.getElem?_eq_some_iff.1 hi).1
  obtain ⟨g, c, rfl⟩ : ∃ g c, lv = .slice (some ⟨g, 0, none⟩) x.L.length c := by
    obtain ⟨g, c, e, -⟩ := World.ownsRow.form (e1 : World.ownsRow _ _ _ _ _ _ _) (by omega)
    exact ⟨g, c, by rw [e, e2]⟩
  obtain ⟨⟨id', pv⟩, hE⟩ := at_lt E i (by omega)
  obtain ⟨rfl, -⟩ : id = id' ∧ True := by
    obtain ⟨ps2, q1, -⟩ := e3 i id' pv hE
    rw [hi] at q1
    exact ⟨by simpa using congrArg (fun o => o.map (·.1)) q1, trivial⟩
  obtain ⟨pa, pc, rfl⟩ := hp.1.slice
  have CL := hid (be_cells e1)
  have b1 := bAl W (.cells #[] 133)
  have c3 : (W.alloc (.cells #[] 133)).cell? ⟨b, 3, none⟩ = some (.slice (some ⟨g, 0, none⟩) x.L.length c) := (h.later b1).cell (j := 3) rfl
  have LI := hid (bes_lit W)
  have hii : (i : Int) < (x.L.length : Int) := by omega
  have hli : (x.L.length : Int) ≤ 64 := by omega
  have E2 := hid e2
  have HE := hid hE
  have HO1 : Hid (∀ p ∈ E, p.2.oneCell' = true) := hid fun p hp => by
    obtain ⟨j, hj⟩ := List.getElem?_of_mem hp
    obtain ⟨ps, -, q, -⟩ := e3 j p.1 p.2 hj
    obtain ⟨a', c', e⟩ := q.slice
    rw [e]; rfl
  have HR1 : Hid (∀ (j : Nat) u, (beC E)[j]? = some u → (W.alloc (.cells #[] 133)).cell? ⟨g, 0 + j, none⟩ = some u) := hid fun j u hj => by
    rw [Nat.zero_add]
    exact At.seen b1 (Nat.le_refl _) (CL.out j u hj)
  have hz1 : W.heap.size ≤ (W.alloc (.cells #[] 133)).heap.size := by simp
  have HL1 : Hid (x.L.length ≤ 5000) := hid (by show _ ≤ _; omega)
  have B1 := hid b1
  have DR : Hid (∀ a' c' w3, BeR W.heap.size w3 (.slice a' x.L.length c') (E.set i (id, .slice pa ps'.length pc)) → Below W.heap.size W w3 → Dm Z (win S W (w3.setCell ⟨b, 3, none⟩ (.slice a' x.L.length c'))) (w3.setCell ⟨b, 3, none⟩ (.slice a' x.L.length c')) b va vb (.slice a' x.L.length c') gv { x with L := x.L.set i (id, ps') } ∧ St (fun y => y = b) W (w3.setCell ⟨b, 3, none⟩ (.slice a' x.L.length c'))) := hid fun v' c' w3 hw hb => by
    have D3 := H.out.grown hb
    have hrb : RB (win S W w3) w3 (.slice v' x.L.length c') (x.L.set i (id, ps')) := RB.set e2 (fun j id pv hj => by
      obtain ⟨ps, q1, q2⟩ := e3 j id pv hj
      exact ⟨ps, q1, (q2.later hb).mono fun _ => win_mono⟩) HE.out ((hp.later hb).mono fun _ => win_mono) ⟨hw.1, hw.2.elim .inl fun ⟨g, cap, cur, h1, h2, h3⟩ => .inr ⟨g, cap, cur, h1, Nat.zero_le _, h3⟩⟩ (fun y hy => .inr (World.ownsRow.lt hw y hy))
    obtain ⟨q1, q2⟩ := D3.own (x' := { x with L := x.L.set i (id, ps') }) (lv' := .slice v' x.L.length c') (gv' := gv) (j := 3) (v := .slice v' x.L.length c') rfl rfl (D3.rows hrb) D3.nums (by show (x.L.set i (id, ps')).length ≤ 64; rw [List.length_set]; omega)
    have es : (w3.setCell ⟨b, 3, none⟩ (.slice v' x.L.length c')).heap.size = w3.heap.size := by simp
    refine ⟨?_, (St.of_below (S := fun y => y = b) hb).trans q2 fun _ _ q => q⟩
    unfold win at q1 ⊢
    rw [es]
    exact q1
  have f3 := hid fun (w : World) (hb : Below W.heap.size W w) => blk_free (H.out.later hb).box 3
  have C3 : Hid (∀ w, Below W.heap.size W w → w.cell? ⟨b, 3, none⟩ = some (.slice (some ⟨g, 0, none⟩) x.L.length c)) := hid fun w hb => (H.out.later hb).cell (j := 3) rfl
  have hzn : ([] : List (Int × Value)).length + x.L.length = x.L.length := by simp
  have HZN := hid hzn
  clear h e1 e2 e3 e4 b1 H hi hp hzn hE
  go_enter Tryz.func105, Tryz.ntmps105
  go_upto_region 1 with (at_builtin; refine wpList_bes _ rfl (.tmp 7) (.tmp 11) rfl W.heap.size _ [] rfl LI.out g 0 x.L.length c E E2.out rfl HR1.out HO1.out x.L.length HZN.out HL1.out hz1 ?_; intro a1 c1 w2 HW2 HB2)
  have hw2 : BeR W.heap.size w2 (.slice a1 x.L.length c1) E := by have := HW2.out; simpa using this
  have b2 := B1.out.trans HB2.out
  obtain ⟨g1, rfl, d0, d1⟩ := hw2.at HE.out
  obtain ⟨-, hgl, cur, hcur, hcap, -⟩ := hw2.blk
  have f1 := blk_free hcur (i * 2 + 1)
  have w3o := hw2.set HE.out (.slice pa ps'.length pc)
  have b3 : Below W.heap.size W (w2.setCell ⟨g1, i * 2 + 1, none⟩ (.slice pa ps'.length pc)) := b2.setCell hgl _
  have c33 := C3.out _ b3
  have f33 := f3.out _ b3
  have hcap1 : x.L.length ≤ c1 := by rw [← E2.out]; exact hcap
  have FIN := hid (DR.out _ _ _ w3o b3)
  clear HW2 HB2 hw2 b2 hcur w3o b3 c3 hgl hcap
  go_wp2_with fail
  go_end0
  exact ⟨rfl, ⟨_, FIN.out.1⟩, FIN.out.2⟩
end
end Go.Proofs.YthadfdbkkmmgoaaGreatDoor.Dw
