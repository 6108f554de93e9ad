/- Texts in one. -/
import Derived.Deep.QuietTactic
import Derived.BigQuiet
import Derived.Deep.RegionHeldLaw
import Derived.Shelf.Strings.Builder1
import Derived.Shelf.Strings.Builder2
import Derived.Shelf.Strings.OnBuilder
import Derived.Shelf.Strconv.Itoa0
import Derived.Shelf.Strconv.Itoa1
import Derived.Shelf.Strconv.Itoa3
import Derived.Test.YthadfdbkkmmgoaaGreatDoorProg
import Derived.Test.YthadfdbkkmmgoaaGreatDoorMaf
namespace Go.Proofs.YthadfdbkkmmgoaaGreatDoor.So
open Go.RowKit Go.Shelf Go.Maps
open Go.Proofs.YthadfdbkkmmgoaaGreatDoor.Co (I64 Pt Col CS I64_mid)
open Go.Proofs.YthadfdbkkmmgoaaGreatDoor.At (St bAl cell_blk blk_seen blk_free lst lst_mem an wi wo add Atl Ints pow_le)
open Go.Proofs.YthadfdbkkmmgoaaGreatDoor.Ro (RS Rol Ents entCells entCells_len)
open Go.Proofs.YthadfdbkkmmgoaaGreatDoor.Rs (Prt Prts SD okL okW okC fitP mskP mskP_snoc PRow st_ro ro_st)
theorem decol (f : Nat → Nat × Nat × Nat) (n N : Nat) (hlt : ∀ k, f k ≠ (0, 0, 0) → k < N) : ∃ f', (∀ k, ¬ cls n (f' k)) ∧ Rec (cls n) f f' N N := by
  classical
  refine ⟨fun k => if cls n (f k) then (0, 0, 0) else f k, fun k => ?_, ⟨fun l h0 hc k => ?_, fun k hk => ?_, fun k hk => ?_⟩⟩
  · show ¬ cls n (if cls n (f k) then (0, 0, 0) else f k)
    by_cases e : cls n (f k)
    · rw [if_pos e]; exact cls_zero n
    · rw [if_neg e]; exact e
  · show (if cls n (f k) then (0, 0, 0) else f k) = l ↔ _
    by_cases e : cls n (f k)
    · rw [if_pos e]
      exact ⟨fun q => absurd q.symm h0, fun q => absurd (q ▸ e) hc⟩
    · rw [if_neg e]
  · change cls n (if cls n (f k) then (0, 0, 0) else f k) at hk
    by_cases e : cls n (f k)
    · exact .inl e
    · rw [if_neg e] at hk; exact .inl hk
  · change (if cls n (f k) then (0, 0, 0) else f k) ≠ (0, 0, 0) at hk
    by_cases e : cls n (f k)
    · rw [if_pos e] at hk; exact absurd rfl hk
    · rw [if_neg e] at hk; exact hlt k hk
theorem tabMap_none (tab : Nat → Option (List (Nat × Nat))) (tv : Nat → TV) (n : Nat) : tabMap (tput tab n none) tv = gput (tabMap tab tv) n none := by
  funext k
  unfold tabMap gput tput
  by_cases e : k = n <;> simp [e]
theorem gput_gput (g : Nat → Option Nat) (n : Nat) (a b : Option Nat) : gput (gput g n a) n b = gput g n b := by
  funext k
  unfold gput
  by_cases e : k = n <;> simp [e]
section
variable {ex ex' : Option Nat} {B : Nat} {W W' : World} {sb : Nat} {c : CV} {s : SD} {n : Nat} {x : TV} {m : Nat} {own : List (Nat × Nat)} {rows : Nat → List Pt}
theorem Sx.drop (h : Sx ex B W sb c s n x m own rows) (hp : PMap W' c.tm (gput (gput (tabMap c.tab c.tv) n (some x.tb)) n none)) (hs : St (fun k => k = c.tm) W W') (hlk : Lk ex' (tput c.tab n none) c.seat s) :
    ∃ f', Sto ex' B W' sb { c with f := f', tab := tput c.tab n none } s ∧ Gw c { c with f := f', tab := tput c.tab n none } W W' ∧ ∀ k, f' k ≠ (0, 0, 0) → c.f k ≠ (0, 0, 0) := by
  obtain ⟨f', d1, d2⟩ := decol c.f n W.heap.size (fun k hk => (h.lt k hk).2)
  have n1 : ¬ cls n (1, 0, 0) := fun q => (cls_ne q).2.1 rfl
  have n2 : ¬ cls n (2, 0, 0) := fun q => (cls_ne q).2.2.1 rfl
  have n3 : ¬ cls n (3, 0, 0) := fun q => (cls_ne q).2.2.2 rfl
  have nt' : ∀ {k : Nat}, c.f k ≠ (1, 0, 0) → k ≠ c.tm := fun q e => q (by rw [e]; exact h.ftm)
  refine ⟨f', ⟨hs.at h.box (h.map.cells_ne h.box), own_kept h.wd hs fun k hk e => ?_, ?_, ?_, hs.at h.seats (h.map.cells_ne h.seats), ?_, ?_, fun k => (d2.out _ (by simp) n1 k).trans (h.fp k), fun k hk => ?_, h.okw, h.n2, hlk, fun k n' hk => ?_, h.small⟩, ⟨⟨hs.os, hs.tape, hs.output, hs.size, fun k hk hn => hs.block k hk fun e => hn ?_⟩, fun k hk => .inl ?_⟩, fun k hk => by rw [(d2.out _ hk (d1 k) k).1 rfl]; exact hk⟩
  · obtain ⟨q, hq⟩ := own_blk h.wd hk
    exact h.map.cells_ne hq e
  · exact atl_congr (h.atl.kept hs fun k hk e => nt' (by rw [hk]; simp) e) fun k => d2.out _ (by simp) n3 k
  · exact rol_congr (h.rol.kept (st_ro hs) fun k hk e => nt' (by rw [hk]; simp) e) fun k => d2.out _ (by simp) n2 k
  · show PMap W' c.tm (tabMap (tput c.tab n none) c.tv)
    rw [tabMap_none, ← gput_gput _ n (some x.tb)]
    exact hp
  · intro n' own' h'
    change tput c.tab n none n' = some own' at h'
    have hne : n' ≠ n := fun e => by rw [e, tput_same] at h'; cases h'
    rw [tput_ne _ hne] at h'
    obtain ⟨m', q1, q2⟩ := h.tabs n' own' hne h'
    exact ⟨m', q1, q2.move hs (fun k hk e => nt' (cls_ne hk).2.1 e) fun l hl k => d2.out l (cls_ne hl).1 (fun q => hne (cls_one hl q)) k⟩
  · have hk' : f' k ≠ (0, 0, 0) := hk
    have := h.lt k (by rw [(d2.out _ hk' (d1 k) k).1 rfl]; exact hk')
    exact ⟨this.1, Nat.lt_of_lt_of_le this.2 hs.size⟩
  · show tput c.tab n none n' ≠ none
    have hne : n' ≠ n := fun e => d1 k (e ▸ hk)
    rw [tput_ne _ hne]
    have hk' : cls n' (f' k) := hk
    refine (h.only k n' (by rw [(d2.out _ (cls_ne hk').1 (d1 k) k).1 rfl]; exact hk')).elim (fun q => absurd q hne) id
  · rw [e, h.ftm]; simp
  · have hk' : f' k ≠ (0, 0, 0) := hk
    rw [(d2.out _ hk' (d1 k) k).1 rfl]; exact hk'
end
theorem rows_taken (s : SD) {own : List (Nat × Nat)} {j : Nat} {y : Nat × Nat} (hy : own[own.length - 1]? = some y) (q : Nat) : rowsOf s (taken own j y) q = tk (rowsOf s own q) j := by
  unfold rowsOf taken tk
  rw [List.map_dropLast, List.map_set]
  congr 2
  rw [List.length_map, List.getD_eq_getElem?_getD, List.getElem?_map, hy]
  rfl
theorem rows_at (s : SD) {own : List (Nat × Nat)} {j i g : Nat} (hj : own[j]? = some (i, g)) (q : Nat) : (rowsOf s own q).getD j Pt.zero = ptAt (s.at i) q := by
  unfold rowsOf
  rw [List.getD_eq_getElem?_getD, List.getElem?_map, hj]
  rfl
theorem parts_left {s : SD} {i g j : Nat} {own : List (Nat × Nat)} (hok : okE s.ws (s.at i)) (hw : s.ws.length ≤ 16) (hj : own[j]? = some (i, g)) : ((lst 32 (mskP (s.at i))).map fun q => mk q ((rowsOf s own q).getD j Pt.zero)) = s.at i := by
  have e : (fun q => mk q ((rowsOf s own q).getD j Pt.zero)) = fun q => mk q (ptAt (s.at i) q) := by
    funext q
    rw [rows_at s hj]
  rw [e]
  exact parts_back hok.1 hw
/-- Where an entity stands. -/
structure At1 (c : CV) (s : SD) (i g n j m : Nat) (own : List (Nat × Nat)) (y : Nat × Nat) : Prop where
  seat : c.seat[i]? = some (n, j)
  tab : c.tab n = some own
  here : own[j]? = some (i, g)
  set : s.sets[n]? = some m
  msk : m = mskP (s.at i)
  last : own[own.length - 1]? = some y
  few : own.length ≤ 64
  ok : okE s.ws (s.at i)
theorem Sto.stands {ex : Option Nat} {B : Nat} {W : World} {sb : Nat} {c : CV} {s : SD} (h : Sto ex B W sb c s) {i g : Nat} (ha : al s i g) (he : ex ≠ some i) : ∃ n j m own y, At1 c s i g n j m own y := by
  obtain ⟨n, j, own, e1, e2, e3, e4⟩ := h.lk.here i g ha he
  have hj := (List.getElem?_eq_some_iff.1 e3).1
  obtain ⟨y, hy⟩ := at_lt own (own.length - 1) (by omega)
  exact ⟨n, j, _, own, y, e1, e2, e3, e4, rfl, hy, Nat.le_trans (h.lk.few e2) h.rol.small, h.lk.ok i g ha he⟩
end Go.Proofs.YthadfdbkkmmgoaaGreatDoor.So
namespace Go.Proofs.YthadfdbkkmmgoaaGreatDoor.So
open Go.RowKit Go.Shelf Go.Maps
open Go.Proofs.YthadfdbkkmmgoaaGreatDoor.Co (I64 Pt Col CS I64_mid)
open Go.Proofs.YthadfdbkkmmgoaaGreatDoor.At (St bAl cell_blk blk_seen blk_free lst lst_mem an wi wo add Atl Ints pow_le)
open Go.Proofs.YthadfdbkkmmgoaaGreatDoor.Ro (RS Rol Ents entCells entCells_len)
open Go.Proofs.YthadfdbkkmmgoaaGreatDoor.Rs (Prt Prts SD okL okW okC fitP mskP mskP_snoc PRow st_ro ro_st)
set_option maxHeartbeats 6400000 in
set_option maxRecDepth 100000 in
theorem leave_any {B : Nat} {W : World} {sb : Nat} {c : CV} {s : SD} {i g : Nat} (h : Sto none B W sb c s) (ha : al s i g) :
    Calls Tryz.prog 154 #[.pointer (some ⟨sb, 0, none⟩), .agg #[.int .i64 (i : Int), .int .i64 (g : Int)]] W fun e W' => ∃ v, e = .returned v ∧ Prts W.heap.size W' v (s.at i) ∧ ∃ c', Sto (some i) B W' sb c' s ∧ c'.t = c.t ∧ Gw c c' W W' ∧ ∀ k, c'.f k ≠ (0, 0, 0) → c.f k ≠ (0, 0, 0) := by
  obtain ⟨n, j, m, own, y, A⟩ := h.stands ha (by simp)
  obtain ⟨w1, hw1⟩ : ∃ w1, w1 = W.alloc (.cells #[.int .i64 (i : Int), .int .i64 (g : Int)] 144) := ⟨_, rfl⟩
  have HW1 := hid hw1
  have b1 : Below W.heap.size W w1 := by rw [hw1]; exact bAl _ _
  have r1 : w1.heap[W.heap.size]? = some (.cells #[.int .i64 (i : Int), .int .i64 (g : Int)] 144 (0, 0)) := by rw [hw1]; exact heap_alloc_new W _
  have hz1 : w1.heap.size = W.heap.size + 1 := by rw [hw1]; simp
  have KK : Hid (∀ W', Below w1.heap.size w1 W' → W'.cell? ⟨sb, 4, none⟩ = some (.slice (some ⟨c.sv, 0, none⟩) c.seat.length c.seat.length) ∧ W'.cell? ⟨W.heap.size, 0, none⟩ = some (.int .i64 (i : Int)) ∧ W'.cell? ⟨c.sv, i * 2, none⟩ = some (.int .i64 (n : Int)) ∧ W'.cell? ⟨c.sv, i * 2 + 1, none⟩ = some (.int .i64 (j : Int))) := fun W' hb => by
    have h' := (h.later b1).later hb
    exact ⟨h'.c4, cell_blk (blk_seen hb (Nat.le_refl _) r1) rfl, (h'.seat_at A.seat).1, (h'.seat_at A.seat).2⟩
  have hi := al_lt ha
  have hsi : (i : Int) < (c.seat.length : Int) := by have := h.lk.len; omega
  have hn5 : n ≤ 65536 := by
    have := (List.getElem?_eq_some_iff.1 A.set).1
    have := h.atl.ok.small
    simp at this
    omega
  have B1 := hid b1
  have H := hid h
  have HA := hid ha
  have AA := hid A
  have R1 := hid r1
  clear hw1 b1 r1 h ha A
  go_enter Tryz.func154, Tryz.ntmps154
  go_upto_region 1 with fail
  rw [← HW1.out]
  go_region_held3 (fun W' => W'.cell? ⟨sb, 4, none⟩ = some (.slice (some ⟨c.sv, 0, none⟩) c.seat.length c.seat.length) ∧ W'.cell? ⟨W.heap.size, 0, none⟩ = some (.int .i64 (i : Int)) ∧ W'.cell? ⟨c.sv, i * 2, none⟩ = some (.int .i64 (n : Int)) ∧ W'.cell? ⟨c.sv, i * 2 + 1, none⟩ = some (.int .i64 (j : Int)))
    (first | exact KK.out _ (Below.refl _ _).drew | exact KK.out _ ((Below.refl _ _).drew.alloc (by simp) _) | exact KK.out _ (((Below.refl _ _).drew.alloc (by simp) _).setCell (by simp) _) | exact KK.out _ ((((Below.refl _ _).drew.alloc (by simp) _).setCell (by simp) _).setCell (by simp) _)) (fail)
  obtain ⟨w2, hw2⟩ : ∃ w2, w2 = (w1.alloc (.cells #[.int .i64 (n : Int), .int .i64 (j : Int)] 267)).drew := ⟨_, rfl⟩
  rw [← hw2]
  have b12 : Below w1.heap.size w1 w2 := by rw [hw2]; exact (bAl _ _).drew
  have b2 : Below W.heap.size W w2 := B1.out.trans (b12.mono B1.out.size)
  have r2 : w2.heap[W.heap.size + 1]? = some (.cells #[.int .i64 (n : Int), .int .i64 (j : Int)] 267 (0, 0)) := by
    rw [hw2, ← hz1]
    exact heap_alloc_new w1 (.cells #[.int .i64 (n : Int), .int .i64 (j : Int)] 267)
  have h2 := H.out.later b2
  obtain ⟨x, hx⟩ : ∃ x, x = c.tv n := ⟨_, rfl⟩
  have X2 := hid (h2.out AA.out.tab AA.out.set)
  have LE : So.lk (tabMap c.tab c.tv) (n : Int) = some (c.tv n).tb := by rw [lk_nat]; unfold tabMap; rw [AA.out.tab]; rfl
  have K2 : Hid (∀ W', Below w2.heap.size w2 W' → W'.cell? ⟨sb, 2, none⟩ = some (.map (some c.tm)) ∧ W'.cell? ⟨W.heap.size + 1, 0, none⟩ = some (.int .i64 (n : Int)) ∧ (Instr.lookup 178 (.map (some c.tm)) (.int .i64 (n : Int)) false).run Tryz.prog W' = .ok (.pointer (some ⟨x.tb, 0, none⟩)) W') := fun W' hb => by
    refine ⟨(h2.later hb).c2, cell_blk (blk_seen hb (Nat.le_refl _) r2) rfl, ?_⟩
    have := (h2.later hb).look (n : Int) (I64_mid (by omega) (by omega))
    rw [LE, ← hx] at this
    exact this
  have hj := (List.getElem?_eq_some_iff.1 AA.out.here).1
  have hm16 : m < 65536 := by have := h2.atl.ok.u16 (List.mem_of_getElem? AA.out.set); exact this
  have R2 := hid r2
  have B2 := hid b2
  have PC : Hid (∀ W', Below w2.heap.size w2 W' → Calls Tryz.prog 174 #[.pointer (some ⟨x.tb, 0, none⟩), .int .i64 (j : Int)] W' fun e W3 => ∃ v, e = .returned v ∧ Prts W.heap.size W3 v (s.at i) ∧ (∃ ov', Sx none B W3 sb c s n ⟨x.tb, ov', x.cm, x.cb⟩ m (taken own j y) (fun q => tk (rowsOf s own q) j)) ∧ Gw c c W W3 ∧ W3.heap[W.heap.size + 1]? = some (.cells #[.int .i64 (n : Int), .int .i64 (j : Int)] 267 (0, 0)) ∧ (∀ k, v.ownBlock = some k → W.heap.size + 2 ≤ k)) := fun W' hb => by
    have X' := X2.out.later hb
    rw [← hx] at X'
    refine (ttake_any X'.tb (fun k hk => (X'.lt k hk).2) hm16 j hj (fun q _ => by unfold rowsOf; simp) (by have := AA.out.few; omega) AA.out.last).mono ?_
    rintro e W3 ⟨v, rfl, q1, ⟨ov', q2, q3⟩, q4⟩
    have hb' : W.heap.size + 2 ≤ W'.heap.size := by
      have e1 := (Array.getElem?_eq_some_iff.1 R2.out).1
      have e2 := hb.size
      omega
    have RT := X'.retab q3 (Rec.refl (cls n) c.f (fun k hk => (X'.lt k hk).2) q4.size) q4
    rw [AA.out.msk] at q1
    rw [parts_left AA.out.ok H.out.okw.1 AA.out.here] at q1
    refine ⟨v, rfl, q1.lower (by omega), ⟨ov', RT.1⟩, ((Gw.of_below B2.out).trans (Gw.of_below hb)).trans RT.2, q4.at (blk_seen hb (Nat.le_refl _) R2.out) fun e => ?_, fun k hk => Nat.le_trans hb' (q1.lt k hk).1⟩
    have := (H.out.lt _ (cls_ne e).1).2
    omega
  have HX := hid hx
  clear hw2 b12 b2 r2 h2 LE hx X2 KK
  go_upto_region 2 with fail
  go_region_held3 (fun W' => W'.cell? ⟨sb, 2, none⟩ = some (.map (some c.tm)) ∧ W'.cell? ⟨W.heap.size + 1, 0, none⟩ = some (.int .i64 (n : Int)) ∧ (Instr.lookup 178 (.map (some c.tm)) (.int .i64 (n : Int)) false).run Tryz.prog W' = .ok (.pointer (some ⟨x.tb, 0, none⟩)) W') (first | exact K2.out _ (Below.refl _ _).drew | exact K2.out _ (Below.refl _ _)) (fail)
  have y1 : w2.drew.cell? ⟨W.heap.size + 1, 1, none⟩ = some (.int .i64 (j : Int)) := cell_blk (W := w2) R2.out rfl
  clear K2
  go_wp2_with fail
  refine (PC.out _ (by first | exact (Below.refl _ _).drew | exact Below.refl _ _)).mono ?_
  rintro e w4 ⟨v, rfl, hv, ⟨ov', hx4⟩, hg4, hr4, hvb⟩
  obtain ⟨t, ht⟩ : ∃ t, t = (taken own j y).length := ⟨_, rfl⟩
  obtain ⟨oa, oc, hov⟩ := own_slice hx4.tb.own
  change ov' = _ at hov
  rw [← ht] at hov
  have htl : t = own.length - 1 := by rw [ht, taken_len]
  have t1 : w4.cell? ⟨x.tb, 1, none⟩ = some (.slice oa t oc) := by have := hx4.tb.c1; change _ = some ov' at this; rw [hov] at this; exact this
  have hti : (t : Int) ≤ 64 := by have := AA.out.few; omega
  have X4 := hid hx4
  have G4 := hid hg4
  have R4 := hid hr4
  have V4 := hid hv
  have VB := hid hvb
  have HOV := hid hov
  have HTL := hid htl
  have LV := hid (H.out.lk.leave AA.out.seat AA.out.tab AA.out.here AA.out.last)
  have RTK : Hid (∀ q, m.testBit q = true → rowsOf s (taken own j y) q = tk (rowsOf s own q) j) := fun q _ => rows_taken s AA.out.last q
  have K4 : Hid (∀ W', Below w4.heap.size w4 W' → W'.cell? ⟨W.heap.size + 1, 1, none⟩ = some (.int .i64 (j : Int)) ∧ W'.cell? ⟨x.tb, 1, none⟩ = some (.slice oa t oc)) := fun W' hb => ⟨cell_blk (blk_seen hb (Nat.le_refl _) R4.out) rfl, At.seen hb (Nat.le_refl _) t1⟩
  have hsvW : c.sv < W.heap.size := (H.out.lt _ (by rw [H.out.fsv]; simp)).2
  have htmW : c.tm < W.heap.size := (H.out.lt _ (by rw [H.out.ftm]; simp)).2
  clear hx4 hg4 hr4 hv hvb hov htl ht y1 PC
  by_cases hA : j < t
  · have hAi : (j : Int) < (t : Int) := by omega
    obtain ⟨gg, cap, cur, e1, e2, e3, e4, e5, e6, e7⟩ := (X4.out.tb.own.2).resolve_left (by rw [taken_len, ← HTL.out]; omega)
    obtain ⟨rfl, rfl⟩ : oa = some ⟨gg, 0, none⟩ ∧ oc = cap := by
      change ov' = _ at e1
      rw [HOV.out] at e1
      simp at e1
      exact ⟨e1.1, e1.2.2⟩
    have hyj : (taken own j y)[j]? = some y := by rw [at_taken (by have := HTL.out; omega), if_pos rfl]
    have zc := cells_of e7 hyj
    have fgg : c.f gg = (4, n, 0) := X4.out.tb.fov (by show ov'.ownBlock = some gg; rw [HOV.out]; rfl)
    have ftb : c.f x.tb = (4, n, 0) := X4.out.tb.ftb
    have hyb := (H.out.lk.back n own AA.out.tab).2 _ y.1 y.2 AA.out.last
    have hys := (List.getElem?_eq_some_iff.1 hyb.2.2.1).1
    have hysi : (y.1 : Int) < (c.seat.length : Int) := by omega
    have g1 := cell_blk e3 zc.1
    have sc := ent_at hyb.2.2.1
    have z0 : w4.cell? ⟨c.sv, y.1 * 2, none⟩ = some (.int .i64 (n : Int)) := cell_blk X4.out.seats (by simpa using sc.1)
    have z1 : w4.cell? ⟨c.sv, y.1 * 2 + 1, none⟩ = some (.int .i64 ((own.length - 1 : Nat) : Int)) := cell_blk X4.out.seats (by simpa using sc.2)
    have v0 := blk_free X4.out.seats (y.1 * 2)
    have v1 := blk_free X4.out.seats (y.1 * 2 + 1)
    have q0 : w4.cell? ⟨sb, 4, none⟩ = some (.slice (some ⟨c.sv, 0, none⟩) c.seat.length c.seat.length) := cell_blk X4.out.box rfl
    have q1 := cell_blk R4.out (j := 0) rfl
    have q2 := cell_blk R4.out (j := 1) rfl
    have n0 : sb ≠ c.sv := fun e => by have := H.out.box; rw [e, H.out.seats] at this; simp at this
    have n1 : x.tb ≠ c.sv := fun e => by rw [e, H.out.fsv] at ftb; simp at ftb
    have n2 : gg ≠ c.sv := fun e => by rw [e, H.out.fsv] at fgg; simp at fgg
    have n3 : W.heap.size + 1 ≠ c.sv := by omega
    have K5 : Hid (∀ q, (w4.drewN q).cell? ⟨sb, 4, none⟩ = some (.slice (some ⟨c.sv, 0, none⟩) c.seat.length c.seat.length) ∧ (w4.drewN q).cell? ⟨x.tb, 1, none⟩ = some (.slice (some ⟨gg, 0, none⟩) t oc) ∧ (w4.drewN q).cell? ⟨W.heap.size + 1, 0, none⟩ = some (.int .i64 (n : Int)) ∧ (w4.drewN q).cell? ⟨W.heap.size + 1, 1, none⟩ = some (.int .i64 (j : Int)) ∧ (w4.drewN q).cell? ⟨gg, j * 2, none⟩ = some (.int .i64 (y.1 : Int))) := fun q =>
      have b := At.drewN_below w4 q
      ⟨At.seen b (Nat.le_refl _) q0, At.seen b (Nat.le_refl _) t1, At.seen b (Nat.le_refl _) q1, At.seen b (Nat.le_refl _) q2, At.seen b (Nat.le_refl _) g1⟩
    clear e1 e3 e7 zc sc g1 q0 q1 q2 hyj
    go_wp2_with fail
    go_region_held3 (fun W' => W'.cell? ⟨W.heap.size + 1, 1, none⟩ = some (.int .i64 (j : Int)) ∧ W'.cell? ⟨x.tb, 1, none⟩ = some (.slice (some ⟨gg, 0, none⟩) t oc)) (first | exact K4.out _ (Below.refl _ _).drew | exact K4.out _ (Below.refl _ _)) (fail)
    go_wp2_with fail
    go_region_held3 (fun W' => W'.cell? ⟨sb, 4, none⟩ = some (.slice (some ⟨c.sv, 0, none⟩) c.seat.length c.seat.length) ∧ W'.cell? ⟨x.tb, 1, none⟩ = some (.slice (some ⟨gg, 0, none⟩) t oc) ∧ W'.cell? ⟨W.heap.size + 1, 0, none⟩ = some (.int .i64 (n : Int)) ∧ W'.cell? ⟨W.heap.size + 1, 1, none⟩ = some (.int .i64 (j : Int)) ∧ W'.cell? ⟨gg, j * 2, none⟩ = some (.int .i64 (y.1 : Int)))
      (first | exact K5.out 0 | exact K5.out 1 | exact K5.out 2 | exact ⟨keep_two (K5.out 1).1 n0, keep_two (K5.out 1).2.1 n1, keep_two (K5.out 1).2.2.1 n3, keep_two (K5.out 1).2.2.2.1 n3, keep_two (K5.out 1).2.2.2.2 n2⟩ | exact ⟨keep_two (K5.out 2).1 n0, keep_two (K5.out 2).2.1 n1, keep_two (K5.out 2).2.2.1 n3, keep_two (K5.out 2).2.2.2.1 n3, keep_two (K5.out 2).2.2.2.2 n2⟩) (fail)
    obtain ⟨w5, hw5⟩ : ∃ w5, w5 = ((w4.setCell ⟨c.sv, y.1 * 2, none⟩ (.int .i64 (n : Int))).setCell ⟨c.sv, y.1 * 2 + 1, none⟩ (.int .i64 (j : Int))).drew.drew := ⟨_, rfl⟩
    rw [← hw5]
    have s45 : St (fun k => k = c.sv) w4 w5 := by
      rw [hw5]
      have q := (St.setCell (S := fun k => k = c.sv) (a := w4) (p := ⟨c.sv, y.1 * 2, none⟩) (.int .i64 (n : Int)) rfl).trans (St.setCell (S := fun k => k = c.sv) (p := ⟨c.sv, y.1 * 2 + 1, none⟩) (.int .i64 (j : Int)) rfl) fun _ _ q => q
      exact ⟨q.os, q.tape, q.output, q.size, q.block⟩
    have hse : w5.heap[c.sv]? = some (.cells (entCells (c.seat.set y.1 (n, j))).toArray 267 (0, 0)) := by
      rw [hw5]
      have e := heap_setCell_same _ c.sv (y.1 * 2 + 1) _ 267 (.int .i64 (j : Int)) (heap_setCell_same w4 c.sv (y.1 * 2) _ 267 (.int .i64 (n : Int)) X4.out.seats)
      refine Eq.trans e ?_
      rw [ent_set]
      simp [Ro.gI]
    have hlv := LV.out
    have hl1 : own.length - 1 ≠ 0 := by have := HTL.out; omega
    rw [left, if_neg hl1, seated, if_pos (by have := HTL.out; omega)] at hlv
    have FN := hid (X4.out.back hse s45 (by simp) rfl rfl rfl X4.out.n2 hlv RTK.out fun _ _ _ _ _ => rfl)
    have GN : Hid (Gw c { c with seat := c.seat.set y.1 (n, j), tab := tput c.tab n (some (taken own j y)), tv := tvput c.tv n ⟨x.tb, ov', x.cm, x.cb⟩ } W w5) := G4.out.trans ⟨⟨s45.os, s45.tape, s45.output, s45.size, fun k hk hn => s45.block k hk fun e => hn (by rw [e, H.out.fsv]; simp)⟩, fun k hk => .inl hk⟩
    have VN : Hid (Prts W.heap.size w5 v (s.at i)) := V4.out.kept s45 fun k hk e => by have := VB.out k hk; omega
    have t5 : w5.cell? ⟨x.tb, 1, none⟩ = some (.slice (some ⟨gg, 0, none⟩) t oc) := st_cell s45 t1 n1
    have tne : ¬ ((t : Int) = 0) := by omega
    clear hw5 s45 hse hlv K5 K4 z0 z1 v0 v1 t1
    go_wp2_with fail
    go_ret
    exact ⟨_, rfl, VN.out, _, FN.out, rfl, GN.out, fun _ q => q⟩
  · have hAi : ¬ ((j : Int) < (t : Int)) := by omega
    go_wp2_with fail
    go_region_held3 (fun W' => W'.cell? ⟨W.heap.size + 1, 1, none⟩ = some (.int .i64 (j : Int)) ∧ W'.cell? ⟨x.tb, 1, none⟩ = some (.slice oa t oc)) (first | exact K4.out _ (Below.refl _ _).drew | exact K4.out _ (Below.refl _ _)) (fail)
    have hlv := LV.out
    rw [seated, if_neg (by have := HTL.out; omega)] at hlv
    by_cases hB : t = 0
    · rw [left, if_pos (by have := HTL.out; omega)] at hlv
      have X5 := hid (X4.out.later (Below.refl w4.heap.size w4).drew)
      obtain ⟨w5, hdel, hp5, hs5⟩ := (X5.out.map.kept (W' := w4.drew.drew) (T := fun _ => False) (St.of_below ((Below.refl _ _).drew)) id).drop Tryz.underlying178 n (by omega) 0
      have s5 : St (fun k => k = c.tm) w4.drew w5 := ⟨hs5.os, hs5.tape, hs5.output, hs5.size, hs5.block⟩
      have DR := hid (X5.out.drop hp5 s5 hlv)
      have VN : Hid (Prts W.heap.size w5 v (s.at i)) := (V4.out.later (Below.refl _ _).drew).kept s5 fun k hk e => by have := VB.out k hk; omega
      have q0 : w4.cell? ⟨sb, 2, none⟩ = some (.map (some c.tm)) := cell_blk X4.out.box rfl
      have q1 := cell_blk R4.out (j := 0) rfl
      have nsb : sb ≠ c.tm := H.out.map.cells_ne H.out.box
      have nW : W.heap.size + 1 ≠ c.tm := by omega
      have K5 : Hid (w4.drew.drew.cell? ⟨sb, 2, none⟩ = some (.map (some c.tm)) ∧ w4.drew.drew.cell? ⟨W.heap.size + 1, 0, none⟩ = some (.int .i64 (n : Int))) := ⟨q0, q1⟩
      have K6 : Hid (w5.cell? ⟨sb, 2, none⟩ = some (.map (some c.tm)) ∧ w5.cell? ⟨W.heap.size + 1, 0, none⟩ = some (.int .i64 (n : Int))) := ⟨st_cell s5 q0 nsb, st_cell s5 q1 nW⟩
      have t5 : w4.drew.cell? ⟨x.tb, 1, none⟩ = some (.slice oa t oc) := t1
      have G5 := hid (G4.out.trans (Gw.of_below (c := c) (Below.refl w4.heap.size w4).drew))
      clear hp5 hs5 s5 hlv q0 q1 K4 X5 t1
      subst hB
      go_wp2_with fail
      go_region_held3 (fun W' => W'.cell? ⟨sb, 2, none⟩ = some (.map (some c.tm)) ∧ W'.cell? ⟨W.heap.size + 1, 0, none⟩ = some (.int .i64 (n : Int))) (first | exact K5.out | exact K6.out) (fail)
      clear hdel K5 K6
      obtain ⟨f', d1, d2, d3⟩ := DR.out
      have D1 := hid d1
      have D2 := hid (G5.out.trans d2)
      have D3 := hid d3
      clear d1 d2 d3 DR
      go_wp2_with fail
      go_ret
      exact ⟨_, rfl, VN.out, _, D1.out, rfl, D2.out, D3.out⟩
    · rw [left, if_neg (by have := HTL.out; omega)] at hlv
      have X5 := hid (X4.out.later (Below.refl w4.heap.size w4).drew)
      have FN := hid (X5.out.back X5.out.seats (St.refl _ _) rfl rfl rfl rfl X5.out.n2 hlv RTK.out fun _ _ _ _ _ => rfl)
      have VN : Hid (Prts W.heap.size w4.drew v (s.at i)) := V4.out.later (Below.refl _ _).drew
      have GN : Hid (Gw c { c with seat := c.seat, tab := tput c.tab n (some (taken own j y)), tv := tvput c.tv n ⟨x.tb, ov', x.cm, x.cb⟩ } W w4.drew) := G4.out.trans ⟨St.of_below (Below.refl w4.heap.size w4).drew, fun k hk => .inl hk⟩
      have t5 : w4.drew.cell? ⟨x.tb, 1, none⟩ = some (.slice oa t oc) := t1
      have tne : ¬ ((t : Int) = 0) := by omega
      clear hlv K4 X5 t1
      go_wp2_with fail
      go_ret
      exact ⟨_, rfl, VN.out, _, FN.out, rfl, GN.out, fun _ q => q⟩
end Go.Proofs.YthadfdbkkmmgoaaGreatDoor.So
namespace Go.Proofs.YthadfdbkkmmgoaaGreatDoor
open Go.RowKit Go.Shelf
def eight : List Nat := [1, 2, 4, 6, 7, 9, 10, 17]
/-- Eight sentinels lie where the program's text lays them. -/
structure Env8 (w : World) (Ad : Nat → Addr) : Prop where
  cell : ∀ k, k ∈ eight → k ≤ 18 → w.cell? ⟨gv k, 0, none⟩ = some (.iface 330 (.pointer (some (Ad k))))
  sen : ∀ k, k ∈ eight → k ≤ 18 → SenK w (Ad k)
  inj : ∀ i j, i ∈ eight → j ∈ eight → Ad i = Ad j → i = j
theorem eight_le : ∀ k ∈ eight, 1 ≤ k ∧ k ≤ 18 := by decide
theorem Env8.later {w w' : World} {Ad : Nat → Addr} (h : Env8 w Ad) (hb : Below w.heap.size w w') : Env8 w' Ad :=
  ⟨fun k h1 h2 => (hb.cell (p := ⟨gv k, 0, none⟩) (World.block_lt_of_cell? w _ (h.cell k h1 h2))).trans (h.cell k h1 h2), fun k h1 h2 => (h.sen k h1 h2).below hb (h.sen k h1 h2).lt, h.inj⟩
theorem Env8.same {w : World} {Ad : Nat → Addr} (h : Env8 w Ad) {p k : Nat} (hp : p ∈ eight) (hk : k ∈ eight) : decide (Ad p = Ad k) = decide (p = k) := by
  by_cases e : p = k
  · subst e; simp
  · have : Ad p ≠ Ad k := fun h' => e (h.inj p k hp hk h')
    simp [e, this]
theorem Env.eight {w : World} {Ad : Nat → Addr} (h : Env w Ad) : Env8 w Ad :=
  ⟨fun k h1 h2 => h.cell k (eight_le k h1).1 h2, fun k h1 h2 => h.sen k (eight_le k h1).1 h2, fun i j h1 h2 => h.inj i j (eight_le i h1).1 (eight_le i h1).2 (eight_le j h2).1 (eight_le j h2).2⟩
end Go.Proofs.YthadfdbkkmmgoaaGreatDoor
namespace Go.Proofs.YthadfdbkkmmgoaaGreatDoor.So
open Go.RowKit Go.Shelf Go.Maps
open Go.Proofs.YthadfdbkkmmgoaaGreatDoor.Co (I64 Pt Col CS I64_mid)
open Go.Proofs.YthadfdbkkmmgoaaGreatDoor.At (St bAl cell_blk blk_seen blk_free lst lst_mem an wi wo add Atl Ints pow_le Err at_err err_leaf)
open Go.Proofs.YthadfdbkkmmgoaaGreatDoor.Ro (RS Rol Ents entCells entCells_len)
open Go.Proofs.YthadfdbkkmmgoaaGreatDoor.Rs (Prt Prts SD okL okW okC fitP mskP mskP_snoc PRow st_ro ro_st)
theorem Env8.three {w : World} {Ad : Nat → Addr} (h : Env8 w Ad) : Co.Env3 w Ad := by
  have R : ∀ k ∈ Co.three, k ∈ eight ∧ k ≤ 18 := by decide
  exact ⟨fun k hk => h.cell k (R k hk).1 (R k hk).2, fun k hk => h.sen k (R k hk).1 (R k hk).2, fun i hi j hj => h.inj i j (R i hi).1 (R j hj).1⟩
theorem Env8.four {w : World} {Ad : Nat → Addr} (h : Env8 w Ad) : Ro.Env4 w Ad := by
  have R : ∀ k ∈ Ro.four, k ∈ eight ∧ k ≤ 18 := by decide
  exact ⟨fun k hk => h.cell k (R k hk).1 (R k hk).2, fun k hk => h.sen k (R k hk).1 (R k hk).2, fun i hi j hj => h.inj i j (R i hi).1 (R j hj).1⟩
section
variable {w : World} {Ad : Nat → Addr}
theorem e1 (h : Env8 w Ad) : w.cell? ⟨0, 0, none⟩ = some (.iface 330 (.pointer (some (Ad 1)))) := h.cell 1 (by decide) (by decide)
theorem e2 (h : Env8 w Ad) : w.cell? ⟨3, 0, none⟩ = some (.iface 330 (.pointer (some (Ad 2)))) := h.cell 2 (by decide) (by decide)
theorem e7 (h : Env8 w Ad) : w.cell? ⟨9, 0, none⟩ = some (.iface 330 (.pointer (some (Ad 7)))) := h.cell 7 (by decide) (by decide)
theorem e9 (h : Env8 w Ad) : w.cell? ⟨6, 0, none⟩ = some (.iface 330 (.pointer (some (Ad 9)))) := h.cell 9 (by decide) (by decide)
theorem e17 (h : Env8 w Ad) : w.cell? ⟨2, 0, none⟩ = some (.iface 330 (.pointer (some (Ad 17)))) := h.cell 17 (by decide) (by decide)
end
/-- A sentinel as an error. -/
def sen (Ad : Nat → Addr) (k : Nat) : Value := .iface 330 (.pointer (some (Ad k)))
set_option maxHeartbeats 1600000 in
set_option maxRecDepth 100000 in
theorem find_nil (Ad : Nat → Addr) (W : World) (hE : Env8 W Ad) (i g : Int) :
    Calls Tryz.prog 121 #[.pointer none, .agg #[.int .i64 i, .int .i64 g]] W fun e W' => e = .returned (.tuple #[.pointer none, .int .i64 0, .iface 330 (.pointer (some (Ad 2)))]) ∧ Below W.heap.size W W' := by
  obtain ⟨w1, hw1⟩ : ∃ w1, w1 = W.alloc (.cells #[.int .i64 i, .int .i64 g] 144) := ⟨_, rfl⟩
  have b1 : Below W.heap.size W w1 := by rw [hw1]; exact bAl _ _
  have c2 := e2 (hE.later b1)
  have HW1 := hid hw1
  have B1 := hid b1
  clear hw1 b1 hE
  go_enter Tryz.func121, Tryz.ntmps121
  go_upto_region 1 with fail
  rw [← HW1.out]
  go_wp2_with fail
  go_quiet (fail)
  go_wp2_with fail
  refine bodyPost_ret (v := .tuple #[.pointer none, .int .i64 0, .iface 330 (.pointer (some (Ad 2)))]) (by simp [results, Tryz.results121, go_sem]) rfl ⟨rfl, B1.out.trans ((At.drewN_below w1 _).mono B1.out.size)⟩
set_option maxHeartbeats 1600000 in
set_option maxRecDepth 100000 in
theorem find_dead (Ad : Nat → Addr) {ex : Option Nat} {B : Nat} {W : World} {sb : Nat} {c : CV} {s : SD} (h : Sto ex B W sb c s) (hE : Env8 W Ad) (i g : Int) (hi : I64 i) (hg : I64 g) (ha : s.r.aliveB i g = false) :
    Calls Tryz.prog 121 #[.pointer (some ⟨sb, 0, none⟩), .agg #[.int .i64 i, .int .i64 g]] W fun e W' => e = .returned (.tuple #[.pointer none, .int .i64 0, .iface 330 (.pointer (some (Ad 17)))]) ∧ Below W.heap.size W W' := by
  obtain ⟨w1, hw1⟩ : ∃ w1, w1 = W.alloc (.cells #[.int .i64 i, .int .i64 g] 144) := ⟨_, rfl⟩
  have b1 : Below W.heap.size W w1 := by rw [hw1]; exact bAl _ _
  have r1 : w1.heap[W.heap.size]? = some (.cells #[.int .i64 i, .int .i64 g] 144 (0, 0)) := by rw [hw1]; exact heap_alloc_new W _
  have KK : Hid (∀ W', Below w1.heap.size w1 W' → W'.cell? ⟨sb, 3, none⟩ = some (.pointer (some ⟨c.rb, 0, none⟩)) ∧ W'.cell? ⟨W.heap.size, 0, none⟩ = some (.int .i64 i) ∧ W'.cell? ⟨W.heap.size, 1, none⟩ = some (.int .i64 g)) := fun W' hb =>
    ⟨((h.later b1).later hb).c3, cell_blk (blk_seen hb (Nat.le_refl _) r1) rfl, cell_blk (blk_seen hb (Nat.le_refl _) r1) rfl⟩
  have AL : Hid (∀ W', Below w1.heap.size w1 W' → Calls Tryz.prog 156 #[.pointer (some ⟨c.rb, 0, none⟩), .agg #[.int .i64 i, .int .i64 g]] W' fun e W2 => e = .returned (.bool false) ∧ Below w1.heap.size w1 W2) := fun W' hb =>
    (Ro.rol_alive ((h.later b1).later hb).rol i g hi hg).mono fun e W2 ⟨q1, q2⟩ => ⟨by rw [q1, ha], hb.trans (q2.mono hb.size)⟩
  have HE := hid (hE.later b1)
  have HW1 := hid hw1
  have B1 := hid b1
  clear hw1 b1 r1 hE h hi hg ha
  go_enter Tryz.func121, Tryz.ntmps121
  go_upto_region 1 with fail
  rw [← HW1.out]
  go_wp2_with fail
  go_region_held3 (fun W' => W'.cell? ⟨sb, 3, none⟩ = some (.pointer (some ⟨c.rb, 0, none⟩)) ∧ W'.cell? ⟨W.heap.size, 0, none⟩ = some (.int .i64 i) ∧ W'.cell? ⟨W.heap.size, 1, none⟩ = some (.int .i64 g)) (first | exact KK.out _ (Below.refl _ _).drew | exact KK.out _ (Below.refl _ _) | exact KK.out _ B2.out)
    ((go_at_call 156; refine (AL.out _ (by first | exact (Below.refl _ _).drew | exact Below.refl _ _)).mono ?_; rintro e w2 ⟨rfl, hb2⟩; have B2 := hid hb2; clear hb2))
  have c17 := e17 (HE.out.later B2.out)
  go_wp2_with fail
  go_quiet (fail)
  go_wp2_with fail
  refine bodyPost_ret (v := .tuple #[.pointer none, .int .i64 0, .iface 330 (.pointer (some (Ad 17)))]) (by simp [results, Tryz.results121, go_sem]) rfl ⟨rfl, ?_⟩
  exact B1.out.trans ((B2.out.trans ((At.drewN_below _ _).mono B2.out.size)).mono B1.out.size)
set_option maxHeartbeats 3200000 in
set_option maxRecDepth 100000 in
theorem find_some {ex : Option Nat} {B : Nat} {W : World} {sb : Nat} {c : CV} {s : SD} (h : Sto ex B W sb c s) {i g n j m : Nat} {own : List (Nat × Nat)} {y : Nat × Nat} (ha : al s i g) (A : At1 c s i g n j m own y) :
    Calls Tryz.prog 121 #[.pointer (some ⟨sb, 0, none⟩), .agg #[.int .i64 (i : Int), .int .i64 (g : Int)]] W fun e W' => e = .returned (.tuple #[.pointer (some ⟨(c.tv n).tb, 0, none⟩), .int .i64 (j : Int), .nilIface]) ∧ Below W.heap.size W W' := by
  obtain ⟨w1, hw1⟩ : ∃ w1, w1 = W.alloc (.cells #[.int .i64 (i : Int), .int .i64 (g : Int)] 144) := ⟨_, rfl⟩
  have b1 : Below W.heap.size W w1 := by rw [hw1]; exact bAl _ _
  have r1 : w1.heap[W.heap.size]? = some (.cells #[.int .i64 (i : Int), .int .i64 (g : Int)] 144 (0, 0)) := by rw [hw1]; exact heap_alloc_new W _
  have h1 := h.later b1
  have hi64 : s.r.gens.length ≤ 64 := h.rol.small
  have hii := al_lt ha
  have KK : Hid (∀ W', Below w1.heap.size w1 W' → W'.cell? ⟨sb, 3, none⟩ = some (.pointer (some ⟨c.rb, 0, none⟩)) ∧ W'.cell? ⟨W.heap.size, 0, none⟩ = some (.int .i64 (i : Int)) ∧ W'.cell? ⟨W.heap.size, 1, none⟩ = some (.int .i64 (g : Int))) := fun W' hb =>
    ⟨(h1.later hb).c3, cell_blk (blk_seen hb (Nat.le_refl _) r1) rfl, cell_blk (blk_seen hb (Nat.le_refl _) r1) rfl⟩
  have hgI : I64 (g : Int) := by
    have hg := (al_iff s i g).1 ha
    have ho := h.rol.old g (List.mem_of_getElem? hg.2)
    have := h.small
    exact I64_mid (by omega) (by omega)
  have AL : Hid (∀ W', Below w1.heap.size w1 W' → Calls Tryz.prog 156 #[.pointer (some ⟨c.rb, 0, none⟩), .agg #[.int .i64 (i : Int), .int .i64 (g : Int)]] W' fun e W2 => e = .returned (.bool true) ∧ Below w1.heap.size w1 W2) := fun W' hb =>
    (Ro.rol_alive (h1.later hb).rol (i : Int) (g : Int) (I64_mid (by omega) (by omega)) hgI).mono fun e W2 ⟨q1, q2⟩ => ⟨by rw [q1, show s.r.aliveB (i : Int) (g : Int) = true from ha], hb.trans (q2.mono hb.size)⟩
  have K5 : Hid (∀ W', Below w1.heap.size w1 W' → W'.cell? ⟨sb, 4, none⟩ = some (.slice (some ⟨c.sv, 0, none⟩) c.seat.length c.seat.length) ∧ W'.cell? ⟨W.heap.size, 0, none⟩ = some (.int .i64 (i : Int)) ∧ W'.cell? ⟨c.sv, i * 2, none⟩ = some (.int .i64 (n : Int)) ∧ W'.cell? ⟨c.sv, i * 2 + 1, none⟩ = some (.int .i64 (j : Int))) := fun W' hb =>
    ⟨(h1.later hb).c4, (KK.out W' hb).2.1, ((h1.later hb).seat_at A.seat).1, ((h1.later hb).seat_at A.seat).2⟩
  have hsi : (i : Int) < (c.seat.length : Int) := by have := h.lk.len; omega
  have hn5 : n ≤ 65536 := by
    have := (List.getElem?_eq_some_iff.1 A.set).1
    have := h.atl.ok.small
    simp at this
    omega
  have LE : So.lk (tabMap c.tab c.tv) (n : Int) = some (c.tv n).tb := by rw [lk_nat]; unfold tabMap; rw [A.tab]; rfl
  obtain ⟨x, hx⟩ : ∃ x, x = c.tv n := ⟨_, rfl⟩
  rw [← hx] at LE
  have K6 : Hid (∀ W', Below w1.heap.size w1 W' → W'.cell? ⟨sb, 2, none⟩ = some (.map (some c.tm)) ∧ (Instr.lookup 178 (.map (some c.tm)) (.int .i64 (n : Int)) false).run Tryz.prog W' = .ok (.pointer (some ⟨x.tb, 0, none⟩)) W') := fun W' hb => by
    refine ⟨(h1.later hb).c2, ?_⟩
    have := (h1.later hb).look (n : Int) (I64_mid (by omega) (by omega))
    rw [LE] at this
    exact this
  rw [← hx]
  have HW1 := hid hw1
  have B1 := hid b1
  clear hw1 b1 r1 h h1 ha A LE hx hgI
  go_enter Tryz.func121, Tryz.ntmps121
  go_upto_region 1 with fail
  rw [← HW1.out]
  go_wp2_with fail
  go_region_held3 (fun W' => W'.cell? ⟨sb, 3, none⟩ = some (.pointer (some ⟨c.rb, 0, none⟩)) ∧ W'.cell? ⟨W.heap.size, 0, none⟩ = some (.int .i64 (i : Int)) ∧ W'.cell? ⟨W.heap.size, 1, none⟩ = some (.int .i64 (g : Int))) (first | exact KK.out _ (Below.refl _ _).drew | exact KK.out _ (Below.refl _ _) | exact KK.out _ B2.out)
    ((go_at_call 156; refine (AL.out _ (by first | exact (Below.refl _ _).drew | exact Below.refl _ _)).mono ?_; rintro e w2 ⟨rfl, hb2⟩; have B2 := hid hb2; clear hb2))
  go_wp2_with fail
  go_region_held3 (fun W' => W'.cell? ⟨sb, 4, none⟩ = some (.slice (some ⟨c.sv, 0, none⟩) c.seat.length c.seat.length) ∧ W'.cell? ⟨W.heap.size, 0, none⟩ = some (.int .i64 (i : Int)) ∧ W'.cell? ⟨c.sv, i * 2, none⟩ = some (.int .i64 (n : Int)) ∧ W'.cell? ⟨c.sv, i * 2 + 1, none⟩ = some (.int .i64 (j : Int)))
    (first | exact K5.out _ B2.out | exact K5.out _ B2.out.drew | exact K5.out _ (B2.out.drew.alloc (by have := B2.out.size; simp; omega) _) | exact K5.out _ ((B2.out.drew.alloc (by have := B2.out.size; simp; omega) _).setCell (by have := B2.out.size; simp; omega) _) | exact K5.out _ (((B2.out.drew.alloc (by have := B2.out.size; simp; omega) _).setCell (by have := B2.out.size; simp; omega) _).setCell (by have := B2.out.size; simp; omega) _)) (fail)
  obtain ⟨w3, hw3⟩ : ∃ w3, w3 = (w2.alloc (.cells #[.int .i64 (n : Int), .int .i64 (j : Int)] 267)).drew := ⟨_, rfl⟩
  have b3 : Below w1.heap.size w1 w3 := by rw [hw3]; exact (B2.out.alloc B2.out.size _).drew
  have r3 : w3.heap[w2.heap.size]? = some (.cells #[.int .i64 (n : Int), .int .i64 (j : Int)] 267 (0, 0)) := by rw [hw3]; exact heap_alloc_new w2 _
  rw [← hw3]
  have B3 := hid b3
  have R3 := hid r3
  have K7 : Hid (∀ W', Below w3.heap.size w3 W' → W'.cell? ⟨sb, 2, none⟩ = some (.map (some c.tm)) ∧ W'.cell? ⟨w2.heap.size, 0, none⟩ = some (.int .i64 (n : Int)) ∧ W'.cell? ⟨w2.heap.size, 1, none⟩ = some (.int .i64 (j : Int)) ∧ (Instr.lookup 178 (.map (some c.tm)) (.int .i64 (n : Int)) false).run Tryz.prog W' = .ok (.pointer (some ⟨x.tb, 0, none⟩)) W') := fun W' hb => by
    have q := K6.out W' (B3.out.trans (hb.mono B3.out.size))
    exact ⟨q.1, cell_blk (blk_seen hb (Nat.le_refl _) R3.out) rfl, cell_blk (blk_seen hb (Nat.le_refl _) R3.out) rfl, q.2⟩
  clear hw3 b3 r3 K5 KK AL
  go_wp2_with fail
  go_region_held3 (fun W' => W'.cell? ⟨sb, 2, none⟩ = some (.map (some c.tm)) ∧ W'.cell? ⟨w2.heap.size, 0, none⟩ = some (.int .i64 (n : Int)) ∧ W'.cell? ⟨w2.heap.size, 1, none⟩ = some (.int .i64 (j : Int)) ∧ (Instr.lookup 178 (.map (some c.tm)) (.int .i64 (n : Int)) false).run Tryz.prog W' = .ok (.pointer (some ⟨x.tb, 0, none⟩)) W') (first | exact K7.out _ (Below.refl _ _).drew | exact K7.out _ (Below.refl _ _)) (fail)
  go_wp2_with fail
  refine bodyPost_ret (v := .tuple #[.pointer (some ⟨x.tb, 0, none⟩), .int .i64 (j : Int), .nilIface]) (by simp [results, Tryz.results121, go_sem]) rfl ⟨rfl, ?_⟩
  exact (B1.out.trans (B3.out.mono B1.out.size)).drew
end Go.Proofs.YthadfdbkkmmgoaaGreatDoor.So
namespace Go.Proofs.YthadfdbkkmmgoaaGreatDoor.So
open Go.RowKit Go.Shelf Go.Maps
open Go.Proofs.YthadfdbkkmmgoaaGreatDoor.Co (I64 Pt Col CS I64_mid Nums nzB any_next any_hit fit_any nums_behind)
open Go.Proofs.YthadfdbkkmmgoaaGreatDoor.At (St bAl cell_blk blk_seen blk_free Ints Err at_err err_leaf)
open Go.Proofs.YthadfdbkkmmgoaaGreatDoor.Rs (Prt SD okW fitP)
set_option maxHeartbeats 400000 in
theorem nz_any (x : Int) (W : World) : Calls Tryz.prog 187 #[.int .i64 x] W fun e W' => e = .returned (.bool (!(x == 0))) ∧ W' = W := by
  go_enter Tryz.func187, Tryz.ntmps187
  go_wp2
  go_ret
  exact ⟨rfl, rfl⟩
set_option maxHeartbeats 800000 in
set_option maxRecDepth 100000 in
theorem index_any (W : World) (b o c : Nat) (xs : List Int) (hn : xs.length ≤ 4) (hm : Nums W b o xs) :
    Calls Tryz.prog 159 #[.slice (some ⟨b, o, none⟩) xs.length c, .func (.func 187) #[] #[]] W fun e W' => ∃ r : Int, e = .returned (.int .i64 r) ∧ decide (0 ≤ r) = xs.any nzB ∧ W' = W := by
  have HM := hid hm
  clear hm
  have NZ := hid nz_any
  have hni : (xs.length : Int) ≤ 4 := by omega
  go_enter Tryz.func159, Tryz.ntmps159
  go_wp2_with fail
  go_loop [5, 8] (fun _ i => ∃ k : Nat, k ≤ xs.length ∧ i = .int .i64 (k : Int) ∧ Hid ((xs.take k).any nzB = false)) (fun _ i => xs.length - (intOf i).toNat)
  case atStart => exact ⟨0, Nat.zero_le _, rfl, rfl⟩
  case round =>
    obtain ⟨k, hk, rfl, HA⟩ := hrel
    by_cases hlt : k < xs.length
    · have hki : (k : Int) < (xs.length : Int) := by omega
      obtain ⟨x, hx⟩ := at_lt xs k hlt
      have c0 := HM.out k x hx
      have AN := hid (any_next hx)
      have AH := hid (any_hit hx)
      clear hx
      by_cases h0 : x = 0
      · have e0 : (x == 0) = true := by simp [h0]
        have E : Hid ((xs.take (k + 1)).any nzB = false) := by show _ = _; rw [AN.out, HA.out]; simp [nzB, e0]
        clear h0 AH
        go_wp2_with fail
        refine (NZ.out _ _).mono ?_
        rintro e w1 ⟨rfl, rfl⟩
        go_wp2_with fail
        go_round
        case rel => exact ⟨k + 1, by omega, by go_num, E.out⟩
        case measure => simp [intOf]; omega
      · have e0 : (x == 0) = false := by simp [h0]
        have E : Hid (xs.any nzB = true) := AH.out (by simp [nzB, e0])
        clear h0 AH
        go_wp2_with fail
        refine (NZ.out _ _).mono ?_
        rintro e w1 ⟨rfl, rfl⟩
        go_wp2_with fail
        go_ret
        exact ⟨_, rfl, by rw [E.out]; simp, rfl⟩
    · have hki : ¬ ((k : Int) < (xs.length : Int)) := by omega
      have E : Hid (xs.any nzB = false) := by
        have := HA.out
        rw [List.take_of_length_le (by omega)] at this
        exact this
      go_wp2_with fail
      go_ret
      exact ⟨_, rfl, by rw [E.out]; simp, rfl⟩
set_option maxHeartbeats 800000 in
theorem contains_any (W : World) (b o c : Nat) (xs : List Int) (hn : xs.length ≤ 4) (hm : Nums W b o xs) :
    Calls Tryz.prog 130 #[.slice (some ⟨b, o, none⟩) xs.length c, .func (.func 187) #[] #[]] W fun e W' => e = .returned (.bool (xs.any nzB)) ∧ W' = W := by
  have IX := hid (index_any W b o c xs hn hm)
  clear hm
  go_enter Tryz.func130, Tryz.ntmps130
  go_wp2_with fail
  refine IX.out.mono ?_
  rintro e w1 ⟨r, rfl, hr, rfl⟩
  have HR := hid hr
  clear hr IX
  go_wp2_with fail
  go_ret
  exact ⟨by rw [← HR.out]; rfl, rfl⟩
theorem fit_bool {ws : List Nat} {p : Prt} {c w : Nat} (hc : p.c = (c : Int)) (hw : ws[c]? = some w) : fitP ws p = (pt p).fitB w := by rw [Rs.fit_in hc hw]; rfl
set_option maxHeartbeats 1600000 in
set_option maxRecDepth 100000 in
theorem check_out (Ad : Nat → Addr) {ex : Option Nat} {B : Nat} {W : World} {sb : Nat} {c : CV} {s : SD} (h : Sto ex B W sb c s) (hE : Env8 W Ad) (p : Prt) (hc : p.c < 0 ∨ (s.ws.length : Int) ≤ p.c) :
    Calls Tryz.prog 170 #[.pointer (some ⟨sb, 0, none⟩), .agg #[.int .i64 p.c, .int .i64 p.v0, .int .i64 p.v1, .int .i64 p.v2, .int .i64 p.v3, .int .i64 p.t]] W fun e W' => ∃ t q, e = .returned (.iface t q) ∧ Err Ad W' (.iface t q) 1 1 ∧ Below W.heap.size W W' := by
  obtain ⟨W1, hW1⟩ : ∃ W1, W1 = W.alloc (.cells p.arr 89) := ⟨_, rfl⟩
  have BA : Hid (Below W.heap.size W W1) := by rw [hW1]; exact bAl _ _
  have x1 := e1 (hE.later BA.out)
  have q0 := (h.later BA.out).c0
  obtain ⟨wa, wc, hwv⟩ := h.wd.slice
  rw [hwv] at q0
  have hh : W1.heap[W.heap.size]? = some (.cells p.arr 89 (0, 0)) := by rw [hW1]; exact heap_alloc_new W (.cells p.arr 89)
  have d0 : W1.cell? ⟨W.heap.size, 0, none⟩ = some (.int .i64 p.c) := cell_blk hh rfl
  have AC := hid (fun s m => at_err Ad s _ 1 0 (W1.drewN m) (err_leaf Ad _ 1 (by decide)))
  have HW1 := hid hW1
  have hsl : (s.ws.length : Int) ≤ 16 := by have := h.okw.1; omega
  unfold Prt.arr at HW1
  clear hE h hW1 hwv hh
  by_cases h0 : p.c < 0
  · have g0 : decide (p.c < 0) = true := by simpa using h0
    clear hc
    go_enter Tryz.func170, Tryz.ntmps170
    go_wp2_with fail
    rw [← HW1.out]
    go_quiet (fail)
    go_wp2_with fail
    refine (AC.out _ _).mono ?_
    rintro e w2 ⟨t, q, rfl, hv, hb⟩
    have HV := hid hv
    have HB := hid (BA.out.trans ((At.drewN_below W1 nq).trans (hb.mono (At.drewN_below W1 nq).size) |>.mono BA.out.size))
    clear hv hb AC
    go_wp2_with fail
    go_ret
    exact ⟨t, q, rfl, HV.out, HB.out⟩
  · have h1 : (s.ws.length : Int) ≤ p.c := by omega
    have g0 : decide (p.c < 0) = false := by simpa using h0
    have g1 : decide ((s.ws.length : Int) ≤ p.c) = true := by simpa using h1
    clear hc
    go_enter Tryz.func170, Tryz.ntmps170
    go_wp2_with fail
    rw [← HW1.out]
    go_quiet (fail)
    go_wp2_with fail
    refine (AC.out _ _).mono ?_
    rintro e w2 ⟨t, q, rfl, hv, hb⟩
    have HV := hid hv
    have HB := hid (BA.out.trans ((At.drewN_below W1 nq).trans (hb.mono (At.drewN_below W1 nq).size) |>.mono BA.out.size))
    clear hv hb AC
    go_wp2_with fail
    go_ret
    exact ⟨t, q, rfl, HV.out, HB.out⟩
end Go.Proofs.YthadfdbkkmmgoaaGreatDoor.So
namespace Go.Proofs.YthadfdbkkmmgoaaGreatDoor.So
open Go.RowKit Go.Shelf Go.Maps
open Go.Proofs.YthadfdbkkmmgoaaGreatDoor.Co (I64 Pt Col CS I64_mid Nums nzB any_next any_hit fit_any nums_behind)
open Go.Proofs.YthadfdbkkmmgoaaGreatDoor.At (St bAl cell_blk blk_seen blk_free Ints Err at_err err_leaf)
open Go.Proofs.YthadfdbkkmmgoaaGreatDoor.Rs (Prt SD okW fitP)
set_option maxHeartbeats 1600000 in
set_option maxRecDepth 100000 in
theorem check_in (Ad : Nat → Addr) {ex : Option Nat} {B : Nat} {W : World} {sb : Nat} {c : CV} {s : SD} (h : Sto ex B W sb c s) (hE : Env8 W Ad) (p : Prt) {cc : Nat} (hc : p.c = (cc : Int)) (hcl : cc < s.ws.length) :
    Calls Tryz.prog 170 #[.pointer (some ⟨sb, 0, none⟩), .agg #[.int .i64 p.c, .int .i64 p.v0, .int .i64 p.v1, .int .i64 p.v2, .int .i64 p.v3, .int .i64 p.t]] W fun e W' => ∃ v, e = .returned v ∧ (if fitP s.ws p then v = .nilIface else ∃ t q, v = .iface t q ∧ Err Ad W' (.iface t q) 1 1) ∧ Below W.heap.size W W' := by
  obtain ⟨w, hw⟩ := at_lt s.ws cc hcl
  have hw14 := h.okw.2 w (List.mem_of_getElem? hw)
  rw [fit_bool hc hw]
  obtain ⟨W1, hW1⟩ : ∃ W1, W1 = W.alloc (.cells p.arr 89) := ⟨_, rfl⟩
  have BA : Hid (Below W.heap.size W W1) := by rw [hW1]; exact bAl _ _
  have x1 := e1 (hE.later BA.out)
  have q0 := (h.later BA.out).c0
  have hwd := (h.later BA.out).wd
  obtain ⟨wa, wc, hwv⟩ := hwd.slice
  rw [hwv] at q0 hwd
  obtain ⟨wg, rfl, -, -⟩ := hwd.some (by omega)
  have q1 := hwd.cell hw
  have hh : W1.heap[W.heap.size]? = some (.cells ((pt p).arr p.c) 89 (0, 0)) := by rw [hW1]; exact heap_alloc_new W (.cells p.arr 89)
  have d0 : W1.cell? ⟨W.heap.size, 0, none⟩ = some (.int .i64 (cc : Int)) := by rw [← hc]; exact cell_blk hh rfl
  have AC := hid (fun s m => at_err Ad s _ 1 0 (W1.drewN m) (err_leaf Ad _ 1 (by decide)))
  have HW1 := hid hW1
  have hsl : (s.ws.length : Int) ≤ 16 := by have := h.okw.1; omega
  have g0 : decide ((cc : Int) < 0) = false := by simp
  have g1 : decide ((s.ws.length : Int) ≤ (cc : Int)) = false := by simp; omega
  have hci : (cc : Int) < (s.ws.length : Int) := by omega
  have hci0 : ¬ ((s.ws.length : Int) ≤ (cc : Int)) := by omega
  unfold Prt.arr at HW1
  have hfx : (pt p).fitB 4 = true := Co.fit4 _
  have hn := nums_behind hh w
  obtain ⟨so, sl, hso⟩ : ∃ so sl : Nat, (w = 4 ∧ so = 1 ∧ sl = 0) ∨ (w < 4 ∧ so = 1 + w ∧ sl = 4 - w) := by
    by_cases h4 : w = 4
    · exact ⟨1, 0, .inl ⟨h4, rfl, rfl⟩⟩
    · exact ⟨1 + w, 4 - w, .inr ⟨by omega, rfl, rfl⟩⟩
  have CO : Hid (∀ W', Below W1.heap.size W1 W' → Calls Tryz.prog 130 #[.slice (some ⟨W.heap.size, so, none⟩) sl sl, .func (.func 187) #[] #[]] W' fun e W'' => e = .returned (.bool (!(pt p).fitB w)) ∧ W'' = W') := fun W' hb => by
    rcases hso with ⟨rfl, rfl, rfl⟩ | ⟨h4, rfl, rfl⟩
    · rw [hfx]
      exact contains_any W' W.heap.size 1 0 [] (by simp) (by intro j x hx; simp at hx)
    · have := contains_any W' W.heap.size (1 + w) (4 - w) ((pt p).cs.drop w) (by simp [Pt.cs]) (by
        intro j x hx
        exact At.seen hb (Nat.le_refl _) (hn j x hx))
      rw [fit_any, show ((pt p).cs.drop w).length = 4 - w by simp [Pt.cs]] at this
      exact this
  obtain ⟨fb, hfb⟩ : ∃ fb, fb = (pt p).fitB w := ⟨_, rfl⟩
  rw [← hfb] at CO ⊢
  rw [hc] at HW1 ⊢
  have KK : Hid (∀ m, (W1.drewN m).cell? ⟨sb, 0, none⟩ = some (.slice (some ⟨wg, 0, none⟩) s.ws.length wc) ∧ (W1.drewN m).cell? ⟨wg, cc, none⟩ = some (.int .i64 (w : Int)) ∧ (W1.drewN m).cell? ⟨W.heap.size, 0, none⟩ = some (.int .i64 (cc : Int)) ∧ (W1.drewN m).cell? ⟨0, 0, none⟩ = some (.iface 330 (.pointer (some (Ad 1))))) := fun m =>
    have b := At.drewN_below W1 m
    ⟨At.seen b (Nat.le_refl _) q0, At.seen b (Nat.le_refl _) q1, At.seen b (Nat.le_refl _) d0, At.seen b (Nat.le_refl _) x1⟩
  have hw4 : (w : Int) ≤ 4 := by omega
  clear h hE hW1 hh hw hwv hwd hc hfx hn hfb
  go_enter Tryz.func170, Tryz.ntmps170
  go_wp2_with fail
  rw [← HW1.out]
  go_quiet (fail)
  obtain ⟨W2, hW2⟩ : ∃ W2, W2 = W1.drewN nq := ⟨_, rfl⟩
  have b2 : Below W1.heap.size W1 W2 := by rw [hW2]; exact At.drewN_below _ _
  obtain ⟨k0, k1, k2, k3⟩ := KK.out nq
  rw [← hW2] at k0 k1 k2 k3
  have CO2 : Hid (∀ m, Calls Tryz.prog 130 #[.slice (some ⟨W.heap.size, so, none⟩) sl sl, .func (.func 187) #[] #[]] (W2.drewN m) fun e W'' => e = .returned (.bool (!fb)) ∧ W'' = W2.drewN m) := fun m => CO.out _ (b2.trans ((At.drewN_below W2 m).mono b2.size))
  have AC2 : Hid (∀ str m, Calls Tryz.prog 38 #[.string str, .iface 330 (.pointer (some (Ad 1)))] (W2.drewN m) fun e w' => ∃ t q, e = .returned (.iface t q) ∧ Err Ad w' (.iface t q) 1 1 ∧ Below W.heap.size W w') := fun str m =>
    (at_err Ad str _ 1 0 (W2.drewN m) (err_leaf Ad _ 1 (by decide))).mono fun e w' ⟨t, q, q1, q2, q3⟩ => by
      have b3 : Below W.heap.size W (W2.drewN m) := BA.out.trans ((b2.trans ((At.drewN_below W2 m).mono b2.size)).mono BA.out.size)
      exact ⟨t, q, q1, q2, b3.trans (q3.mono b3.size)⟩
  have B3 : Hid (∀ m, Below W.heap.size W (W2.drewN m)) := fun m => BA.out.trans ((b2.trans ((At.drewN_below W2 m).mono b2.size)).mono BA.out.size)
  have K3 : Hid (∀ m, (W2.drewN m).cell? ⟨0, 0, none⟩ = some (.iface 330 (.pointer (some (Ad 1))))) := fun m => At.seen (At.drewN_below W2 m) (Nat.le_refl _) k3
  rw [← hW2]
  clear hW2 b2 KK CO AC q0 q1 d0 x1 BA
  rcases hso with ⟨rfl, rfl, rfl⟩ | ⟨h4, rfl, rfl⟩
  · go_wp2_with fail
    go_quiet ((go_at_call 130; exact Calls.quiet_of_same (CO2.out _)))
    have k4 := K3.out nq
    cases fb
    · go_wp2_with fail
      refine (AC2.out _ _).mono ?_
      rintro e w2 ⟨t, q, rfl, hv, hb⟩
      have HV := hid hv
      have HB := hid hb
      clear hv hb
      go_wp2_with fail
      go_ret
      exact ⟨_, rfl, ⟨t, q, rfl, HV.out⟩, HB.out⟩
    · go_wp2_with fail
      go_ret
      exact ⟨_, rfl, rfl, B3.out _⟩
  · have hn4 : ¬ (4 = w) := by omega
    have hz4 : ¬ (w = 4) := by omega
    go_wp2_with fail
    go_quiet ((go_at_call 130; exact Calls.quiet_of_same (CO2.out _)))
    have k4 := K3.out nq
    cases fb
    · go_wp2_with fail
      refine (AC2.out _ _).mono ?_
      rintro e w2 ⟨t, q, rfl, hv, hb⟩
      have HV := hid hv
      have HB := hid hb
      clear hv hb
      go_wp2_with fail
      go_ret
      exact ⟨_, rfl, ⟨t, q, rfl, HV.out⟩, HB.out⟩
    · go_wp2_with fail
      go_ret
      exact ⟨_, rfl, rfl, B3.out _⟩
end Go.Proofs.YthadfdbkkmmgoaaGreatDoor.So
namespace Go.Proofs.YthadfdbkkmmgoaaGreatDoor
open Go.RowKit Go.Shelf Go.Extern.Stop Go.Stop Go.Extern
/-- A Several of sentinels inside Blames. -/
structure Sev (Ad : Nat → Addr) (n₀ : Nat) (W : World) (d b : Nat) (vs : List (Value × (List ByteArray × Nat))) : Prop where
  lay : ∃ g c, b < n₀ ∧ g < n₀ ∧ W.cell? ⟨b, 0, none⟩ = some (.slice (some ⟨g, 0, none⟩) vs.length c) ∧ ∀ (j : Nat) x, vs[j]? = some x → W.cell? ⟨g, j, none⟩ = some x.1
  two : 2 ≤ vs.length
  few : vs.length ≤ 1000
  each : ∀ x ∈ vs, Chn Ad n₀ W d x.1 x.2
/-- What All answers: nothing, one sentinel inside Blames, a Several of such. -/
def Top (Ad : Nat → Addr) (n₀ : Nat) (W : World) (d : Nat) (v : Value) (ls : List (List ByteArray × Nat)) : Prop :=
  (v = .nilIface ∧ ls = []) ∨ (∃ p, ls = [p] ∧ Chn Ad n₀ W d v p) ∨ ∃ b vs, v = .iface 235 (.pointer (some ⟨b, 0, none⟩)) ∧ ls = vs.map Prod.snd ∧ Sev Ad n₀ W d b vs
section
variable {Ad : Nat → Addr} {n₀ : Nat} {W : World} {d : Nat}
theorem Top.empty : Top Ad n₀ W d .nilIface [] := .inl ⟨rfl, rfl⟩
theorem Top.one (v : Value) (p : List ByteArray × Nat) (h : Chn Ad n₀ W d v p) : Top Ad n₀ W d v [p] := .inr (.inl ⟨p, rfl, h⟩)
theorem Top.many (b : Nat) (vs : List (Value × (List ByteArray × Nat))) (h : Sev Ad n₀ W d b vs) : Top Ad n₀ W d (.iface 235 (.pointer (some ⟨b, 0, none⟩))) (vs.map Prod.snd) := .inr (.inr ⟨b, vs, rfl, rfl, h⟩)
/-- By what it is. -/
theorem Top.ways {motive : ∀ (v : Value) (ls : List (List ByteArray × Nat)), Top Ad n₀ W d v ls → Prop} (empty : motive .nilIface [] Top.empty) (one : ∀ v p (h : Chn Ad n₀ W d v p), motive v [p] (Top.one v p h))
    (many : ∀ b vs (h : Sev Ad n₀ W d b vs), motive (.iface 235 (.pointer (some ⟨b, 0, none⟩))) (vs.map Prod.snd) (Top.many b vs h)) {v : Value} {ls : List (List ByteArray × Nat)} (h : Top Ad n₀ W d v ls) : motive v ls h := by
  rcases h with ⟨rfl, rfl⟩ | ⟨p, rfl, h⟩ | ⟨b, vs, rfl, rfl, h⟩
  · exact empty
  · exact one v p h
  · exact many b vs h
end
theorem Chn.one {Ad : Nat → Addr} {n₀ d : Nat} {W : World} {v : Value} {p : List ByteArray × Nat} (h : Chn Ad n₀ W d v p) : v.oneCell' = true := by
  obtain ⟨t, q, rfl, _⟩ := h.1.shape
  rfl
theorem Sev.move {Ad : Nat → Addr} {n₀ n₁ d b : Nat} {W W' : World} {vs : List (Value × (List ByteArray × Nat))} (h : Sev Ad n₀ W d b vs) (hb : Below n₀ W W') (hn : n₀ ≤ n₁) : Sev Ad n₁ W' d b vs := by
  obtain ⟨⟨g, c, h1, h2, h3, h4⟩, h5, h6, h7⟩ := h
  exact ⟨⟨g, c, by omega, by omega, (hb.cell (p := ⟨b, 0, none⟩) h1).trans h3, fun j x hx => (hb.cell (p := ⟨g, j, none⟩) h2).trans (h4 j x hx)⟩, h5, h6, fun x hx => (h7 x hx).move hb hn⟩
theorem Top.move {Ad : Nat → Addr} {n₀ n₁ d : Nat} {W W' : World} {v : Value} {ls : List (List ByteArray × Nat)} (h : Top Ad n₀ W d v ls) (hb : Below n₀ W W') (hn : n₀ ≤ n₁) : Top Ad n₁ W' d v ls := by
  cases h using Top.ways with
  | empty => exact .empty
  | one v p h => exact .one v p (h.move hb hn)
  | many b vs h => exact .many b vs (h.move hb hn)
theorem Top.later {Ad : Nat → Addr} {d : Nat} {W W' : World} {v : Value} {ls : List (List ByteArray × Nat)} (h : Top Ad W.heap.size W d v ls) (hb : Below W.heap.size W W') : Top Ad W'.heap.size W' d v ls := h.move hb hb.size
theorem Top.tr {Ad : Nat → Addr} {n₀ d : Nat} {W : World} {v : Value} {ls : List (List ByteArray × Nat)} (h : Top Ad n₀ W d v ls) : Tr Ad n₀ W d v ls := by
  cases h using Top.ways with
  | empty => exact .empty d
  | one v p h => exact h.tr
  | many b vs h =>
    obtain ⟨⟨g, c, h1, h2, h3, h4⟩, h5, h6, h7⟩ := h
    have := Tr.many (Ad := Ad) (n₀ := n₀) (W := W) d b g c (vs.map fun x => (x.1, [x.2])) h1 h2 (by simp; omega) (by simpa using h6) (by simpa using h3)
      (fun j x hx => by
        simp only [List.getElem?_map, Option.map_eq_some_iff] at hx
        obtain ⟨y, hy, rfl⟩ := hx
        exact h4 j y hy)
      (fun x hx => by
        obtain ⟨y, hy, rfl⟩ := List.mem_map.1 hx
        exact (h7 y hy).one)
      (fun x hx => by
        obtain ⟨y, hy, rfl⟩ := List.mem_map.1 hx
        exact (h7 y hy).tr)
    have e : ((vs.map fun x => (x.1, [x.2])).map Prod.snd).flatten = vs.map Prod.snd := by
      clear this h3 h4 h5 h6 h7
      induction vs with
      | nil => rfl
      | cons x t ih => simpa using ih
    rw [e] at this
    exact this
set_option maxHeartbeats 2000000 in
set_option maxRecDepth 100000 in
theorem eis_many (Ad : Nat → Addr) (k d b : Nat) (w : World) (vs : List (Value × (List ByteArray × Nat))) (hE : Env w Ad) (hS : Sev Ad w.heap.size w d b vs) (hk : 1 ≤ k ∧ k ≤ 18) :
    Calls Tryz.prog 47 #[.iface 235 (.pointer (some ⟨b, 0, none⟩)), .iface 330 (.pointer (some (Ad k))), .bool true] w fun e w' => e = .returned (.bool (vs.any fun x => decide (x.2.2 = k))) ∧ Below w.heap.size w w' := by
  obtain ⟨⟨g, c, h1, h2, h3, h4⟩, h5, h6, h7⟩ := hS
  have hty := run_eql_iface_types (P := Tryz.prog) 235 330 (.pointer (some ⟨b, 0, none⟩)) (.pointer (some (Ad k))) Tryz.underlying31 (by decide) w
  have nW := km_noIsS
  have uW := km_noUnwrapS
  have vW := km_hasUnwrapsS
  have mU := km_methodS
  have U := hid (unwraps_any b g c (vs.map Prod.fst) w (by simpa using h6) (by simpa using h3) (fun j u hu => by
    simp only [List.getElem?_map, Option.map_eq_some_iff] at hu
    obtain ⟨x, hx, rfl⟩ := hu
    exact h4 j x hx) (fun u hu => by
    obtain ⟨x, hx, rfl⟩ := List.mem_map.1 hu
    exact (h7 x hx).one))
  rw [List.length_map] at U
  have H7 := hid h7
  have HE := hid hE
  have HKK := hid hk
  have hni : (vs.length : Int) ≤ 1000 := by omega
  clear h3 h4 h7 hE h1 h2 hk
  go_enter Tryz.func47, Tryz.ntmps47
  go_wp2_with fail
  refine wp_loop_rounds 1 ?_
  rw [rounds_succ]
  go_wp2_with fail
  refine U.out.mono ?_
  rintro e w1 ⟨ga, gc, rfl, ho, hbl⟩
  have O1 := hid ho
  have B1 := hid hbl
  have E1 := hid (HE.out.later hbl)
  clear ho hbl U
  go_wp2_with fail
  go_loop [12, 45] (fun _ i => ∃ j : Nat, j ≤ vs.length ∧ i = .int .i64 j ∧ (vs.take j).any (fun x => decide (x.2.2 = k)) = false) (fun _ i => vs.length - (intOf i).toNat)
  case atStart => exact ⟨0, Nat.zero_le _, rfl, rfl⟩
  case round =>
    obtain ⟨j, hj, rfl, hn⟩ := hrel
    have HN := hid hn
    clear hn
    by_cases hlt : j < vs.length
    · obtain ⟨x, hx⟩ := at_lt vs j hlt
      obtain ⟨h, rfl, hh⟩ := own_some O1.out (by omega)
      have c1 : w1.cell? ⟨h, j, none⟩ = some x.1 := by rw [O1.out.cellAt j (by omega)]; simp [hx]
      have HT := hid (take_next hx)
      have hm := List.mem_of_getElem? hx
      have hch := (H7.out x hm).move B1.out (Nat.le_refl _)
      have C := hid (eis_chain Ad w.heap.size k w1 x.2.1 x.1 x.2.2 E1.out hch.1 ⟨hch.2.1, hch.2.2.1⟩ HKK.out)
      have HM := hid hm
      clear hx hm hch
      by_cases hq : x.2.2 = k
      · have HR : Hid (vs.any (fun x => decide (x.2.2 = k)) = true) := List.any_eq_true.2 ⟨x, HM.out, by simpa using hq⟩
        rw [decide_eq_true hq] at C
        clear hq
        go_wp2_with fail
        refine C.out.mono ?_
        rintro e w' ⟨rfl, rfl⟩
        go_wp2_with fail
        go_ret
        exact ⟨by rw [HR.out]; rfl, B1.out⟩
      · have HR : Hid ((vs.take (j + 1)).any (fun x => decide (x.2.2 = k)) = false) := by
          show _ = _
          rw [HT.out, List.any_append, HN.out]; simp [hq]
        rw [decide_eq_false hq] at C
        clear hq
        go_wp2_with fail
        refine C.out.mono ?_
        rintro e w' ⟨rfl, rfl⟩
        go_wp2_with fail
        go_round
        case rel => exact ⟨j + 1, by omega, by go_num, HR.out⟩
        case measure => simp [intOf]; omega
    · have HR : Hid (vs.any (fun x => decide (x.2.2 = k)) = false) := by
        show _ = _
        rw [← HN.out, List.take_of_length_le (by omega)]
      go_wp2_with fail
      go_ret
      exact ⟨by rw [HR.out]; rfl, B1.out⟩
/-- errors.Is, of what All answers. -/
theorem is_top (Ad : Nat → Addr) (k d : Nat) (v : Value) (ls : List (List ByteArray × Nat)) (w : World) (hE : Env w Ad) (hT : Top Ad w.heap.size w d v ls) (hv : v ≠ .nilIface) (hk : 1 ≤ k ∧ k ≤ 18) :
    Calls Tryz.prog 11 #[v, .iface 330 (.pointer (some (Ad k)))] w fun e w' => e = .returned (.bool (ls.any fun x => decide (x.2 = k))) ∧ Below w.heap.size w w' := by
  cases hT using Top.ways with
  | empty => exact absurd rfl hv
  | one v p h =>
    obtain ⟨t, q, rfl, _⟩ := h.1.shape
    refine is_by Ad k t q _ w ((eis_chain Ad w.heap.size k w p.1 _ p.2 hE h.1 ⟨h.2.1, h.2.2.1⟩ hk).mono ?_)
    rintro e w' ⟨rfl, rfl⟩
    exact ⟨by simp, Below.refl _ _⟩
  | many b vs h =>
    refine is_by Ad k _ _ _ w ((eis_many Ad k d b w vs hE h hk).mono ?_)
    rintro e w' ⟨rfl, hb⟩
    exact ⟨by rw [List.any_map]; rfl, hb⟩
end Go.Proofs.YthadfdbkkmmgoaaGreatDoor
namespace Go.Proofs.YthadfdbkkmmgoaaGreatDoor
open Go.RowKit Go.Shelf
/-- At, of what All answers: the error somewhere. -/
theorem at_top (Ad : Nat → Addr) (s : ByteArray) (d : Nat) (v : Value) (ls : List (List ByteArray × Nat)) (w : World) (h : Top Ad w.heap.size w d v ls) :
    Calls Tryz.prog 38 #[.string s, v] w fun e w' => ∃ v', e = .returned v' ∧ Tr Ad w'.heap.size w' (d + 1) v' (ls.map fun p => (s :: p.1, p.2)) ∧ Below w.heap.size w w' := by
  rcases h.tr.isIface with rfl | ⟨t, q, rfl⟩
  · refine (at_nil s w).mono ?_
    rintro e w' ⟨rfl, rfl⟩
    have : ls = [] := by
      cases h using Top.ways with
      | empty => rfl
      | one v p h => obtain ⟨t, q, e, _⟩ := h.1.shape; cases e
    subst this
    exact ⟨_, rfl, .empty _, Below.refl _ _⟩
  · refine (at_some s t q w).mono ?_
    rintro e w' ⟨rfl, rfl⟩
    have hb : Below w.heap.size w (w.alloc (.cells #[.string s, .iface t q] 161)) := (Below.refl _ _).alloc (Nat.le_refl _) _
    obtain ⟨c0, c1⟩ := cell_new2 w (.string s) (.iface t q) 161
    exact ⟨_, rfl, .blame d w.heap.size s _ ls (by simp) c0 c1 (h.tr.move hb hb.size), hb⟩
theorem noSeveralB (v : Value) (xT : TypeId) (w : World) : (Instr.typeAssert (.iface 159 v) xT 235 true).run Tryz.prog w = .ok (.tuple #[.pointer none, .bool false]) w := by kernel_rfl
theorem noSev (t : TypeId) (q : Value) (ht : t = 330 ∨ t = 159) (xT : TypeId) (w : World) : (Instr.typeAssert (.iface t q) xT 235 true).run Tryz.prog w = .ok (.tuple #[.pointer none, .bool false]) w := by
  rcases ht with rfl | rfl
  · exact noSeveral q xT w
  · exact noSeveralB q xT w
/-- A row of errors in memory, below B. -/
def Errs (B : Nat) (W : World) (v : Value) (us : List Value) : Prop := ∃ a c, v = .slice a us.length c ∧ (us = [] ∨ ∃ g, g < B ∧ a = some ⟨g, 0, none⟩ ∧ ∀ (j : Nat) x, us[j]? = some x → W.cell? ⟨g, j, none⟩ = some x)
theorem Errs.later {B : Nat} {W W' : World} {v : Value} {us : List Value} (h : Errs B W v us) (hb : Below B W W') : Errs B W' v us := by
  obtain ⟨a, c, h1, h2⟩ := h
  refine ⟨a, c, h1, h2.imp id ?_⟩
  rintro ⟨g, h0, h3, h4⟩
  exact ⟨g, h0, h3, fun j x hx => (hb.cell (p := ⟨g, j, none⟩) h0).trans (h4 j x hx)⟩
theorem own_errs {W : World} {B : Nat} {v : Value} {us : List Value} (h : W.ownsRow B 31 1 v us.length us) : Errs W.heap.size W v us := by
  obtain ⟨ga, gc, rfl⟩ := own_slice h
  refine ⟨ga, gc, rfl, ?_⟩
  by_cases h0 : 0 < us.length
  · obtain ⟨g, rfl, _, h1⟩ := own_some h h0
    exact .inr ⟨g, h1, rfl, fun j x hx => by rw [h.cellAt j (by have := (List.getElem?_eq_some_iff.1 hx).1; omega)]; exact hx⟩
  · exact .inl (List.eq_nil_of_length_eq_zero (by omega))
theorem app_cell (w : World) (x : Value) : ∀ (j : Nat) u, [x][j]? = some u → (w.alloc (.cells #[x] 31)).cell? ⟨w.heap.size, j, none⟩ = some u := by
  intro j u hu
  cases j with
  | zero => simp at hu; subst hu; exact new_cell w x 31
  | succ j => simp at hu
/-- What flatten makes of one error. -/
def Flt (B : Nat) (W : World) (u : Value) (vs : List Value) : Prop :=
  (u = .nilIface ∧ vs = []) ∨ (∃ t q, u = .iface t q ∧ (t = 330 ∨ t = 159) ∧ vs = [u]) ∨
  ∃ b ev, u = .iface 235 (.pointer (some ⟨b, 0, none⟩)) ∧ b < B ∧ W.cell? ⟨b, 0, none⟩ = some ev ∧ Errs B W ev vs ∧ vs.length ≤ 1000 ∧ ∀ v ∈ vs, ∃ t q, v = .iface t q ∧ (t = 330 ∨ t = 159)
theorem Flt.later {B : Nat} {W W' : World} {u : Value} {vs : List Value} (h : Flt B W u vs) (hb : Below B W W') : Flt B W' u vs := by
  rcases h with h | h | ⟨b, ev, h1, h2, h3, h4, h5⟩
  · exact .inl h
  · exact .inr (.inl h)
  · exact .inr (.inr ⟨b, ev, h1, h2, (hb.cell (p := ⟨b, 0, none⟩) h2).trans h3, h4.later hb, h5⟩)
/-- What flatten asks of its own call on a Several's errors. -/
def FlatOk : Prop := ∀ (fv ev : Value) (xs us : List Value) (B : Nat) (w : World), B ≤ w.heap.size → w.ownsRow B 31 1 fv xs.length xs → Errs B w ev us → (∀ u ∈ us, ∃ t q, u = .iface t q ∧ (t = 330 ∨ t = 159)) → xs.length + us.length ≤ 3000 →
    Calls Tryz.prog 132 #[fv, ev] w fun e w' => ∃ v', e = .returned v' ∧ w'.ownsRow B 31 1 v' (xs ++ us).length (xs ++ us) ∧ Below B w w'
theorem isSev (v : Value) (xT : TypeId) (w : World) : (Instr.typeAssert (.iface 235 v) xT 235 true).run Tryz.prog w = .ok (.tuple #[v, .bool true]) w := by kernel_rfl
set_option maxHeartbeats 2000000 in
set_option maxRecDepth 100000 in
/-- flatten, of errors each of which is known. -/
theorem flat_step (fv ev : Value) (xs : List Value) (us : List (Value × List Value)) (B : Nat) (w : World) (hB : B ≤ w.heap.size) (ho : w.ownsRow B 31 1 fv xs.length xs) (he : Errs B w ev (us.map Prod.fst)) (hu : ∀ u ∈ us, Flt B w u.1 u.2) (hx : xs.length + ((us.map Prod.snd).flatten).length ≤ 3000) (hx2 : us.length ≤ 3000)
    (hF : (∃ u ∈ us, ∃ b, u.1 = .iface 235 (.pointer (some ⟨b, 0, none⟩))) → FlatOk) :
    Calls Tryz.prog 132 #[fv, ev] w fun e w' => ∃ v', e = .returned v' ∧ w'.ownsRow B 31 1 v' (xs ++ (us.map Prod.snd).flatten).length (xs ++ (us.map Prod.snd).flatten) ∧ Below B w w' := by
  obtain ⟨fa, fc, rfl⟩ := own_slice ho
  have HO := hid ho
  obtain ⟨ea, ec, rfl, -⟩ := id he
  rw [List.length_map] at he ⊢
  have HEr := hid he
  have HU := hid hu
  have HF := hid hF
  have HX := hid hx
  have hui : (us.length : Int) ≤ 3000 := by omega
  clear ho he hu hF hx
  go_enter Tryz.func132, Tryz.ntmps132
  go_wp2_with fail
  go_loopw [0, 6, 7, 8, 9, 12] (fun f _ _ _ _ i wr => ∃ (k : Nat) (ga : Option Addr) (gc : Nat) (y : List Value), k ≤ us.length ∧ i = .int .i64 k ∧ f = .slice ga y.length gc ∧ y = xs ++ ((us.take k).map Prod.snd).flatten ∧ wr.ownsRow B 31 1 (.slice ga y.length gc) y.length y ∧ Below B w wr) (fun _ _ _ _ _ i _ => us.length - (intOf i).toNat)
  case atStart => exact ⟨0, fa, fc, xs, Nat.zero_le _, rfl, rfl, by simp, HO.out, Below.refl _ _⟩
  case round =>
    obtain ⟨k, ga, gc, y, hk, rfl, rfl, hy, ho, hb⟩ := hrel
    have HY := hid hy
    have HOy := hid ho
    have HB := hid hb
    clear hy ho hb HO
    by_cases hlt : k < us.length
    · obtain ⟨x, hxk⟩ := at_lt us k hlt
      have HT := hid (take_next hxk)
      have HM := hid (List.mem_of_getElem? hxk)
      obtain ⟨g, hgB, rfl, hcells⟩ : ∃ g, g < B ∧ ea = some ⟨g, 0, none⟩ ∧ ∀ (j : Nat) z, (us.map Prod.fst)[j]? = some z → wr.cell? ⟨g, j, none⟩ = some z := by
        obtain ⟨a, c, h1, h2⟩ := HEr.out.later HB.out
        rcases h2 with h2 | ⟨g, h3, h4, h5⟩
        · rw [List.map_eq_nil_iff] at h2; rw [h2] at hlt; simp at hlt
        · simp only [Value.slice.injEq] at h1; rw [h1.1]; exact ⟨g, h3, h4, h5⟩
      have c1 : wr.cell? ⟨g, k, none⟩ = some x.1 := hcells k x.1 (by simp [hxk])
      have hyl : y.length + x.2.length ≤ 3000 := by
        have h1 := HX.out
        have h2 := (cut_prefix HT.out id (x.2.map id) (List.prefix_refl _)).length_le
        have h3 : y.length = xs.length + (((us.take k).map Prod.snd).flatten).length := by rw [HY.out, List.length_append]
        simp only [List.length_append, List.map_id_fun, id_eq] at h2
        omega
      have HN : Hid (xs ++ ((us.take (k + 1)).map Prod.snd).flatten = y ++ x.2) := by show _ = _; rw [HT.out, HY.out]; simp
      have hsz : B ≤ wr.heap.size := Nat.le_trans hB HB.out.size
      clear hxk hcells
      rcases (HU.out x HM.out).later HB.out with ⟨hxn, hv⟩ | ⟨t, q, hxe, ht, hv⟩ | ⟨b, sv, hxe, hbB, hcb, her, hvl, hvs⟩
      · rw [hxn] at c1
        have R : Hid (y = xs ++ ((us.take (k + 1)).map Prod.snd).flatten) := by show _ = _; rw [HN.out, hv]; simp
        go_wp2_with fail
        go_roundw
        case rel => exact ⟨k + 1, ga, gc, y, by omega, by go_num, rfl, R.out, HOy.out, HB.out⟩
        case measure => simp [intOf]; omega
      · rw [hxe] at c1
        have nS := noSev t q ht
        have R : Hid (y ++ [.iface t q] = xs ++ ((us.take (k + 1)).map Prod.snd).flatten) := by show _ = _; rw [HN.out, hv, hxe]
        have hy1 : y.length + 1 ≤ 5000 := by rw [hv] at hyl; simp at hyl; omega
        clear ht hv hxe
        go_wp2_with (at_builtin; refine wpList_errs _ rfl (.tmp 17) (.tmp 19) rfl B _ y rfl ?_ wr.heap.size 1 [.iface t q] rfl ?_ ?_ ?_ ?_ ?_; exact HOy.out.alloc _; exact app_cell wr _; intro u hu; simp at hu; subst hu; rfl; exact hy1; exact Nat.le_trans hsz (by simp); intro g1 c2 y1 w2 h2 o2 b2)
        go_roundw
        case rel => exact ⟨k + 1, g1, c2, y1, by omega, by go_num, rfl, by rw [h2.out, R.out], o2.out, (HB.out.alloc hsz _).trans b2.out⟩
        case measure => simp [intOf]; omega
      · rw [hxe] at c1
        have yS := isSev
        have R : Hid (y ++ x.2 = xs ++ ((us.take (k + 1)).map Prod.snd).flatten) := HN.out.symm
        have C := hid (HF.out ⟨x, HM.out, b, hxe⟩ (.slice ga y.length gc) sv y x.2 B wr hsz HOy.out her hvs hyl)
        clear her hvs hxe
        go_wp2_with fail
        refine C.out.mono ?_
        rintro e w2 ⟨v2, rfl, o2, b2⟩
        obtain ⟨g2, c2, rfl⟩ := own_slice o2
        have O2 := hid o2
        have B2 := hid (HB.out.trans b2)
        clear o2 b2
        generalize hyx : y ++ x.2 = yx at *
        go_wp2_with fail
        go_roundw
        case rel => exact ⟨k + 1, g2, c2, yx, by omega, by go_num, rfl, R.out, O2.out, B2.out⟩
        case measure => simp [intOf]; omega
    · have e : Hid (y = xs ++ (us.map Prod.snd).flatten) := by show _ = _; rw [HY.out, List.take_of_length_le (by omega)]
      go_wp2_with fail
      go_ret
      have h := HOy.out
      exact ⟨_, rfl, by rw [← e.out]; exact h, HB.out⟩
theorem flat_id : ∀ us : List Value, ((us.map fun u => (u, [u])).map Prod.snd).flatten = us
  | [] => rfl
  | u :: us => by simpa using flat_id us
theorem fst_id : ∀ us : List Value, (us.map fun u => (u, [u])).map Prod.fst = us
  | [] => rfl
  | u :: us => by simpa using fst_id us
theorem flat_plain : FlatOk := by
  intro fv ev xs us B w hB ho he hu hx
  have h := flat_step fv ev xs (us.map fun u => (u, [u])) B w hB ho (by rw [fst_id us]; exact he) (fun u hu' => by
    obtain ⟨v, hv, rfl⟩ := List.mem_map.1 hu'
    obtain ⟨t, q, e, ht⟩ := hu v hv
    exact .inr (.inl ⟨t, q, e, ht, rfl⟩)) (by
      have : ((us.map fun u => (u, [u])).map Prod.snd).flatten = us := flat_id us
      rw [this]; exact hx) (by simp; omega) (by
    rintro ⟨u, hu', b, hb⟩
    obtain ⟨v, hv, rfl⟩ := List.mem_map.1 hu'
    obtain ⟨t, q, e, ht⟩ := hu v hv
    simp only at hb
    rw [e] at hb
    cases hb
    rcases ht with h | h <;> cases h)
  rw [show ((us.map fun u => (u, [u])).map Prod.snd).flatten = us from flat_id us] at h
  exact h
end Go.Proofs.YthadfdbkkmmgoaaGreatDoor
namespace Go.Proofs.YthadfdbkkmmgoaaGreatDoor
open Go.RowKit Go.Shelf
theorem top_flt {Ad : Nat → Addr} {B d : Nat} {W : World} {u : Value} {ls : List (List ByteArray × Nat)} (h : Top Ad B W d u ls) : ∃ vs : List (Value × (List ByteArray × Nat)), Flt B W u (vs.map Prod.fst) ∧ ls = vs.map Prod.snd ∧ ∀ x ∈ vs, Chn Ad B W d x.1 x.2 := by
  cases h using Top.ways with
  | empty => exact ⟨[], .inl ⟨rfl, rfl⟩, rfl, by simp⟩
  | one v p h =>
    obtain ⟨t, q, e, ht⟩ := h.1.shape
    exact ⟨[(u, p)], .inr (.inl ⟨t, q, e, ht, rfl⟩), rfl, by simpa using h⟩
  | many b vs h =>
    obtain ⟨⟨g, c, h1, h2, h3, h4⟩, h5, h6, h7⟩ := h
    refine ⟨vs, .inr (.inr ⟨b, _, rfl, h1, h3, ⟨_, c, by simp, .inr ⟨g, h2, rfl, fun j x hx => ?_⟩⟩, by simpa using h6, fun v hv => ?_⟩), rfl, h7⟩
    · simp only [List.getElem?_map, Option.map_eq_some_iff] at hx
      obtain ⟨y, hy, rfl⟩ := hx
      exact h4 j y hy
    · obtain ⟨y, hy, rfl⟩ := List.mem_map.1 hv
      exact (h7 y hy).1.shape
theorem tops_flt {Ad : Nat → Addr} {B d : Nat} {W : World} : ∀ us : List (Value × List (List ByteArray × Nat)), (∀ u ∈ us, Top Ad B W d u.1 u.2) →
    ∃ zs : List (Value × List (Value × (List ByteArray × Nat))), zs.map Prod.fst = us.map Prod.fst ∧ (us.map Prod.snd).flatten = ((zs.map Prod.snd).flatten).map Prod.snd ∧ (∀ z ∈ zs, Flt B W z.1 (z.2.map Prod.fst)) ∧ ∀ x ∈ (zs.map Prod.snd).flatten, Chn Ad B W d x.1 x.2
  | [], _ => ⟨[], rfl, rfl, by simp, by simp⟩
  | u :: us, h => by
    obtain ⟨vs, h1, h2, h3⟩ := top_flt (h u (by simp))
    obtain ⟨zs, e1, e2, e3, e4⟩ := tops_flt us (fun x hx => h x (by simp [hx]))
    refine ⟨(u.1, vs) :: zs, by simp [e1], by simp [e2, h2], ?_, ?_⟩
    · intro z hz
      rcases List.mem_cons.1 hz with rfl | hz
      · exact h1
      · exact e3 z hz
    · intro x hx
      simp only [List.map_cons, List.flatten_cons, List.mem_append] at hx
      rcases hx with hx | hx
      · exact h3 x hx
      · exact e4 x hx
theorem fst_flat : ∀ zs : List (Value × List (Value × (List ByteArray × Nat))), ((zs.map fun z => (z.1, z.2.map Prod.fst)).map Prod.snd).flatten = ((zs.map Prod.snd).flatten).map Prod.fst
  | [] => rfl
  | z :: zs => by simpa using fst_flat zs
theorem fst_fst : ∀ zs : List (Value × List (Value × (List ByteArray × Nat))), (zs.map fun z => (z.1, z.2.map Prod.fst)).map Prod.fst = zs.map Prod.fst
  | [] => rfl
  | z :: zs => by simp
set_option maxHeartbeats 2000000 in
set_option maxRecDepth 100000 in
/-- All. -/
theorem all_top (Ad : Nat → Addr) (d : Nat) (ev : Value) (us : List (Value × List (List ByteArray × Nat))) (w : World) (he : Errs w.heap.size w ev (us.map Prod.fst)) (hT : ∀ u ∈ us, Top Ad w.heap.size w d u.1 u.2) (hn : us.length ≤ 1000) (hl : (us.map Prod.snd).flatten.length ≤ 1000) :
    Calls Tryz.prog 85 #[ev] w fun e w' => ∃ v', e = .returned v' ∧ Top Ad w'.heap.size w' d v' (us.map Prod.snd).flatten ∧ Below w.heap.size w w' := by
  obtain ⟨zs, e1, e2, e3, e4⟩ := tops_flt us hT
  have hzl : zs.length = us.length := by have := congrArg List.length e1; simpa using this
  rw [e2] at hl ⊢
  have FC := flat_step (.slice none 0 0) ev [] (zs.map fun z => (z.1, z.2.map Prod.fst)) w.heap.size w (Nat.le_refl _) (World.ownsRow_nil _ _ _ _) (by rw [fst_fst, e1]; exact he)
    (fun u hu => by obtain ⟨z, hz, rfl⟩ := List.mem_map.1 hu; exact e3 z hz) (by rw [fst_flat, List.length_map]; rw [List.length_map] at hl; simp only [List.length_nil]; omega) (by simp; omega) (fun _ => flat_plain)
  rw [fst_flat, List.nil_append] at FC
  have HF := hid FC
  have H4 := hid e4
  obtain ⟨ts, hts⟩ : ∃ ts, ts = (zs.map Prod.snd).flatten := ⟨_, rfl⟩
  rw [← hts] at HF H4 hl ⊢
  rw [List.length_map] at hl
  clear FC e1 e2 e3 e4 hts hT he hzl hn
  rcases ts with _ | ⟨x, _ | ⟨y, r⟩⟩
  · go_enter Tryz.func85, Tryz.ntmps85
    go_wp2_with fail
    refine HF.out.mono ?_
    rintro e w1 ⟨v1, rfl, ho, hb⟩
    rw [List.length_map] at ho
    obtain ⟨ga, gc, rfl⟩ := own_slice ho
    have O1 := hid ho
    have B1 := hid hb
    have C1 := hid (fun x hx => (H4.out x hx).move hb hb.size)
    clear ho hb HF H4
    go_wp2_with fail
    go_ret
    exact ⟨_, rfl, .empty, B1.out⟩
  · go_enter Tryz.func85, Tryz.ntmps85
    go_wp2_with fail
    refine HF.out.mono ?_
    rintro e w1 ⟨v1, rfl, ho, hb⟩
    rw [List.length_map] at ho
    obtain ⟨ga, gc, rfl⟩ := own_slice ho
    have O1 := hid ho
    have B1 := hid hb
    have C1 := hid (fun x hx => (H4.out x hx).move hb hb.size)
    clear ho hb HF H4
    obtain ⟨g, rfl, hg⟩ := own_some O1.out (by simp)
    have c1 : w1.cell? ⟨g, 0, none⟩ = some x.1 := by rw [O1.out.cellAt 0 (by simp)]; rfl
    go_wp2_with fail
    go_ret
    exact ⟨_, rfl, .one _ x.2 (C1.out x (by simp)), B1.out⟩
  · obtain ⟨ts, hts⟩ : ∃ ts, ts = x :: y :: r := ⟨_, rfl⟩
    have h2 : 2 ≤ ts.length := by rw [hts]; simp
    rw [← hts] at HF H4 hl ⊢
    clear hts
    have hli : (ts.length : Int) ≤ 1000 := by omega
    have h2i : (2 : Int) ≤ ts.length := by omega
    have z0 : ((ts.length : Int) == 0) = false := beq_eq_false_iff_ne.2 (by omega)
    have z1 : ((ts.length : Int) == 1) = false := beq_eq_false_iff_ne.2 (by omega)
    go_enter Tryz.func85, Tryz.ntmps85
    go_wp2_with fail
    refine HF.out.mono ?_
    rintro e w1 ⟨v1, rfl, ho, hb⟩
    rw [List.length_map] at ho
    obtain ⟨ga, gc, rfl⟩ := own_slice ho
    have O1 := hid ho
    have B1 := hid hb
    have C1 := hid (fun x hx => (H4.out x hx).move hb hb.size)
    clear ho hb HF H4
    obtain ⟨g, rfl, hg⟩ := own_some O1.out (by omega)
    have BA := hid (show Below w1.heap.size w1 (w1.alloc (.cells #[.slice (some ⟨g, 0, none⟩) ts.length gc] 237)) from (Below.refl _ _).alloc (Nat.le_refl _) _)
    have R : Hid (Top Ad (w1.alloc (.cells #[.slice (some ⟨g, 0, none⟩) ts.length gc] 237)).heap.size (w1.alloc (.cells #[.slice (some ⟨g, 0, none⟩) ts.length gc] 237)) d (.iface 235 (.pointer (some ⟨w1.heap.size, 0, none⟩))) (ts.map Prod.snd)) := by
      refine .many w1.heap.size ts ⟨⟨g, gc, by simp, by simp; omega, new_cell w1 _ _, fun j x hx => ?_⟩, h2, by omega, fun x hx => (C1.out x hx).move BA.out BA.out.size⟩
      have hj := (List.getElem?_eq_some_iff.1 hx).1
      rw [BA.out.cell (p := ⟨g, j, none⟩) hg.2, O1.out.cellAt j (by omega)]
      simp [hx]
    go_wp2_with fail
    go_ret
    exact ⟨_, rfl, R.out, B1.out.trans (BA.out.mono B1.out.size)⟩
end Go.Proofs.YthadfdbkkmmgoaaGreatDoor
namespace Go.Proofs.YthadfdbkkmmgoaaGreatDoor
open Go.RowKit Go.Shelf
attribute [local go_sem] Oper.semAt_some
theorem Turn.frozen {P : Obj → Prop} {B : Nat} {w w' : World} (h : Turn P B w w') {p : Addr} {x : Value} (hc : w.cell? p = some x) (hp : p.block < B) : w'.frozen? p = w.frozen? p := by
  have hlt := World.block_lt_of_cell? w p hc
  have hb := h.block p.block _ (Array.getElem?_eq_getElem hlt) (.inl hp)
  exact World.frozen?_of_block (w := w) (hb.trans (Array.getElem?_eq_getElem hlt).symm)
theorem new_free (w : World) (x : Value) (e : TypeId) : (w.alloc (.cells #[x] e)).frozen? ⟨w.heap.size, 0, none⟩ = false := by
  have h := heap_alloc_new w (.cells #[x] e)
  unfold World.frozen?; rw [show (⟨w.heap.size, 0, none⟩ : Addr).block = w.heap.size from rfl, h]; rfl
/-- How Has stands between two leaves. -/
def HasI (At : Nat → Addr) (n₀ : Nat) (w : World) (r t : Nat) (a : Addr) (s : List Lf) (W : World) : Prop :=
  ((∀ x ∈ s, At x.k ≠ a) ∧ W.cell? ⟨r, 0, none⟩ = some (.bool false) ∧ W.frozen? ⟨r, 0, none⟩ = false ∧ W.cell? ⟨t, 0, none⟩ = some (.iface 330 (.pointer (some a)))) ∧ Below n₀ w W
def HasX (At : Nat → Addr) (n₀ : Nat) (w : World) (r : Nat) (a : Addr) (c : Code) (s : List Lf) (W : World) : Prop :=
  (c = .ret ∧ (∃ x ∈ s, At x.k = a) ∧ W.cell? ⟨r, 0, none⟩ = some (.bool true)) ∧ Below n₀ w W
theorem HasI.turn {At : Nat → Addr} {n₀ : Nat} {w : World} {r t B : Nat} {a : Addr} {P : Obj → Prop} (hr : r < B) (ht : t < B) (hw : n₀ ≤ B) (h0 : n₀ ≤ w.heap.size) (s : List Lf) (A A' : World) (h : HasI At n₀ w r t a s A) (h1 : Turn P B A A') : HasI At n₀ w r t a s A' := by
  obtain ⟨⟨h2, h3, h4, h5⟩, h6⟩ := h
  exact ⟨⟨h2, h1.cell h3 hr, (h1.frozen h3 hr).trans h4, h1.cell h5 ht⟩, h6.trans ((h1.mono (fun _ h => h) hw).below (Nat.le_trans h0 h6.size))⟩
theorem HasX.turn {At : Nat → Addr} {n₀ : Nat} {w : World} {r B : Nat} {a : Addr} {P : Obj → Prop} (hr : r < B) (hw : n₀ ≤ B) (h0 : n₀ ≤ w.heap.size) (c : Code) (s : List Lf) (A A' : World) (h : HasX At n₀ w r a c s A) (h1 : Turn P B A A') : HasX At n₀ w r a c s A' := by
  obtain ⟨⟨h2, h3, h4⟩, h6⟩ := h
  exact ⟨⟨h2, h3, h1.cell h4 hr⟩, h6.trans ((h1.mono (fun _ h => h) hw).below (Nat.le_trans h0 h6.size))⟩
theorem odd_kept (o : Obj) (h : Odd o) : ¬ isKept o := by
  rintro ⟨cur, rfl | rfl⟩ <;> cases h
set_option maxHeartbeats 2000000 in
set_option maxRecDepth 100000 in
theorem has_gen (Ad At : Nat → Addr) (v : Value) (ls : List (List ByteArray × Nat)) (d : Nat) (w : World) (hE : Env w Ad) (hAt : ∀ j, 1 ≤ j → j ≤ 18 → SenK w (At j)) (hT : Tr At w.heap.size w d v ls) (hd : d ≤ 1000) (k : Nat) (hk : k < 18) :
    Calls Tryz.prog 51 #[v, .int .i64 ((k : Int) + 1)] w fun e w' => e = .returned (.bool (decide (∃ p ∈ ls, At p.2 = Ad (k + 1)))) ∧ Below w.heap.size w w' := by
  have HAT := hid hAt
  clear hAt
  have HV := hid hT.isIface
  have HT := hid hT
  have HE := hid hE
  have b1 : Below w.heap.size w (w.alloc (.cells #[.bool false] 4)) := (Below.refl _ _).alloc (Nat.le_refl _) _
  have E1 := hid (hE.later b1)
  have BB := hid b1
  clear hT hE b1
  refine callsIn_wide (n := 5) |>.1 ?_
  refine callsIn_of_wp_marks Tryz.func51 rfl trivial ?_ rfl
  simp only [Tryz.ntmps51, List.size_toArray, List.length_cons, List.length_nil, Nat.reduceAdd, Nat.reduceSub, Array.replicate_succ, Array.replicate_zero, List.push_toArray, List.append_toArray, List.nil_append, List.cons_append]
  gi_wp2_with fail
  refine ⟨trivial, ?_⟩
  refine (callsIn_wide.2 (of_some _ Ad E1.out k hk)).mono ?_
  rintro e w2 ⟨rfl, hb2⟩
  have B2 := hid (show Below (w.heap.size + 1) (w.alloc (.cells #[.bool false] 4)) w2 by simpa using hb2)
  clear hb2
  gi_wp2_with fail
  refine ⟨trivial, ?_⟩
  refine (callsIn_wide.2 (parts_any v HV.out _)).mono ?_
  rintro e w' ⟨rfl, rfl⟩
  gi_wp2_with fail
  obtain ⟨wl, hwl⟩ : ∃ wl, wl = (w2.alloc (.cells #[.iface 330 (.pointer (some (Ad (k + 1))))] 31)).alloc (.cells #[v] 31) := ⟨_, rfl⟩
  rw [← hwl]
  have hs2 : w.heap.size + 1 ≤ w2.heap.size := by have := B2.out.size; simpa using this
  have hsz : wl.heap.size = w2.heap.size + 1 + 1 := by rw [hwl]; simp
  have hl2 : Below w2.heap.size w2 wl := by rw [hwl]; exact ((Below.refl _ _).alloc (Nat.le_refl _) _).alloc (by simp) _
  have hb0 : Below w.heap.size w wl := (BB.out.trans (B2.out.mono (by omega))).trans (hl2.mono (by omega))
  have c0 : wl.cell? ⟨w.heap.size, 0, none⟩ = some (.bool false) := (hl2.cell (p := ⟨w.heap.size, 0, none⟩) (by show w.heap.size < _; omega)).trans ((B2.out.cell (p := ⟨w.heap.size, 0, none⟩) (by show w.heap.size < _; omega)).trans (new_cell w _ _))
  have f0 : wl.frozen? ⟨w.heap.size, 0, none⟩ = false := (hl2.frozen (p := ⟨w.heap.size, 0, none⟩) (by show w.heap.size < _; omega)).trans ((B2.out.frozen (p := ⟨w.heap.size, 0, none⟩) (by show w.heap.size < _; omega)).trans (new_free w _ _))
  have c1 : wl.cell? ⟨w2.heap.size, 0, none⟩ = some (.iface 330 (.pointer (some (Ad (k + 1))))) := by
    rw [hwl]
    exact (((Below.refl (w2.heap.size + 1) _).alloc (by simp) _).cell (p := ⟨w2.heap.size, 0, none⟩) (by show w2.heap.size < _; omega)).trans (new_cell w2 _ _)
  have c2 : wl.cell? ⟨w2.heap.size + 1, 0, none⟩ = some v := by
    rw [hwl]
    have := new_cell (w2.alloc (.cells #[.iface 330 (.pointer (some (Ad (k + 1))))] 31)) v 31
    rw [World.size_alloc] at this
    exact this
  refine range_law (P := Tryz.prog) rfl (by decide) (gf := 135) (lb := #[.pointer (some ⟨w2.heap.size + 1, 0, none⟩)]) rfl trivial (enters_of Tryz.func135 (by kernel_rfl) rfl)
    (encs At) (fun _ => rfl) isRow isRow_cells (Handed wl.heap.size ls) (HasI At w.heap.size wl w.heap.size w2.heap.size (Ad (k + 1))) (HasX At w.heap.size wl w.heap.size (Ad (k + 1))) (Kp w.heap.size)
    (fun xs => xs.map Lf.pair = ls) (fun xs => xs.map Lf.pair <+: ls)
    ?hR (HasI.turn (by omega) (by omega) (by omega) (by omega)) (HasX.turn (by omega) (by omega) (by omega)) ⟨⟨by simp, c0, f0, c1⟩, Below.refl _ _⟩ w.heap.size ?hBi ?hBx ?hKt ?hKb
    (parts_seq At w.heap.size (w2.heap.size + 1) d w wl v ls _ _ HT.out hd hb0 (by omega) (by omega) c2)
    (fun x => { tmps := #[v, .int .i64 ((k : Int) + 1), undef, undef, .pointer (some ⟨w.heap.size, 0, none⟩), .pointer (some ⟨w2.heap.size, 0, none⟩), undef, .iface 330 (.pointer (some (At x.k))), .int .i64 ((k : Int) + 1), .iface 330 (.pointer (some (Ad (k + 1)))), .iface 330 (.pointer (some (Ad (k + 1)))), .bool false, v, .func (.func 135) #[] #[.pointer (some ⟨w2.heap.size + 1, 0, none⟩)], x.tv, .iface 330 (.pointer (some (At x.k))), undef, undef, undef], defers := [] }) ?assign ?body ?done ?stop
  case hR =>
    rintro s x A B ⟨h1, h2⟩ ht
    exact ⟨own_later h1 fun g cur _ hg => ht.block g _ hg (.inr fun h => by cases h), h2⟩
  case hBi => exact fun s A h => h.2
  case hBx => exact fun c s A h => h.2
  case hKt => exact fun h1 h2 => h1.trans h2
  case hKb => exact fun h => h.mono odd_kept (by omega)
  case assign =>
    intro l x W K hK
    simp only [encs]
    gi_wp2
    exact hK
  case body =>
    rintro l pre x W hl ⟨⟨hp, hc, hf, ht⟩, hB⟩ ⟨htr, hx1, hx2, -⟩
    have hEW := HE.out.later (hb0.trans hB)
    have C := hid (is_any (At x.k) (Ad (k + 1)) W ((HAT.out _ hx1 hx2).below (hb0.trans hB) (HAT.out _ hx1 hx2).lt) (hEW.sen _ (by omega) (by omega)))
    have hsW : w.heap.size < W.heap.size := World.block_lt_of_cell? W _ hc
    by_cases he : At x.k = Ad (k + 1)
    · rw [decide_eq_true he] at C
      have HQ := hid he
      clear he
      gi_wp2_with fail
      refine ⟨trivial, ?_⟩
      refine (CallsIn.inRound l (callsIn_wide.2 C.out)).mono ?_
      rintro e w' ⟨rfl, rfl⟩
      gi_wp2_with fail
      have cs : (W.setCell ⟨w.heap.size, 0, none⟩ (.bool true)).cell? ⟨w.heap.size, 0, none⟩ = some (.bool true) := World.cell?_setCell_same' _ _ _ (by rw [hc]; rfl)
      exact ⟨(KeepsOthers.setCell _ _ _).trans (KeepsOthers.alloc _ _), ⟨rfl, ⟨x, by simp, HQ.out⟩, (((Below.refl (w.heap.size + 1) _).alloc (by simp; omega) _).cell (p := ⟨w.heap.size, 0, none⟩) (by show w.heap.size < _; omega)).trans cs⟩, (hB.setCell (p := ⟨w.heap.size, 0, none⟩) (Nat.le_refl _) _).alloc (by simp; omega) _⟩
    · rw [decide_eq_false he] at C
      have bb : Below W.heap.size W (W.alloc (.cells #[.bool false] 4)) := (Below.refl _ _).alloc (Nat.le_refl _) _
      gi_wp2_with fail
      refine ⟨trivial, ?_⟩
      refine (CallsIn.inRound l (callsIn_wide.2 C.out)).mono ?_
      rintro e w' ⟨rfl, rfl⟩
      gi_wp2_with fail
      refine ⟨KeepsOthers.alloc _ _, Turn.alloc _ _ _ _, ⟨fun y hy => (List.mem_append.1 hy).elim (hp y) (fun e => by simp at e; subst e; exact he), (bb.cell (p := ⟨w.heap.size, 0, none⟩) hsW).trans hc, (bb.frozen (p := ⟨w.heap.size, 0, none⟩) hsW).trans hf, (bb.cell (p := ⟨w2.heap.size, 0, none⟩) (World.block_lt_of_cell? W _ ht)).trans ht⟩, hB.alloc (by omega) _⟩
  case done =>
    rintro D ys W hD hS ⟨⟨hne, hc, hf, _⟩, hB⟩ hK
    have hdec : decide (∃ p ∈ ls, At p.2 = Ad (k + 1)) = false := by
      simp only [decide_eq_false_iff_not]
      rw [← hS]
      rintro ⟨p, hp, e⟩
      obtain ⟨x, hx, rfl⟩ := List.mem_map.1 hp
      exact hne x hx e
    gi_wp2
    have hK' := (KeepsOthers.setCell W ⟨w.heap.size, 0, none⟩ (.bool false)).same D _ hK rfl
    refine ⟨by simp, .inl ⟨_, _, rfl, run_takeDeferred hK', ?_⟩⟩
    have hc5 := cell_kept (World.cell?_setCell_same' W ⟨w.heap.size, 0, none⟩ (.bool false) (by rw [hc]; rfl)) (grownBy_putObj' _ D (.deferred none)) (fun r e => by cases e; exact ⟨_, hK', rfl⟩)
    refine ⟨.bool false, ?_, by rw [hdec], (hb0.trans (hB.setCell (p := ⟨w.heap.size, 0, none⟩) (Nat.le_refl _) _)).trans ((Turn.put (P := Odd) _ (show w.heap.size ≤ D by omega) hK' rfl).below (Nat.le_trans hb0.size (Nat.le_trans hB.size (by simp))))⟩
    simp [results, Tryz.f51, go_sem, hc5]
  case stop =>
    rintro D c pre W hD hS ⟨⟨rfl, ⟨x, hx, he⟩, hc⟩, hB⟩ hK
    have hdec : decide (∃ p ∈ ls, At p.2 = Ad (k + 1)) = true := by
      simp only [decide_eq_true_eq]
      exact ⟨x.pair, hS.subset (List.mem_map.2 ⟨x, hx, rfl⟩), he⟩
    gi_wp2
    refine ⟨by simp, .inl ⟨_, _, rfl, run_takeDeferred hK, ?_⟩⟩
    have hc5 := cell_kept hc (grownBy_putObj' _ D (.deferred none)) (fun r e => by cases e; exact ⟨_, hK, rfl⟩)
    refine ⟨.bool true, ?_, by rw [hdec], (hb0.trans hB).trans ((Turn.put (P := Odd) _ (show w.heap.size ≤ D by omega) hK rfl).below (Nat.le_trans hb0.size hB.size))⟩
    simp [results, Tryz.f51, go_sem, hc5]
theorem Tr.range {Ad : Nat → Addr} {n₀ : Nat} {W : World} {d : Nat} {v : Value} {ls : List (List ByteArray × Nat)} (h : Tr Ad n₀ W d v ls) : ∀ p ∈ ls, 1 ≤ p.2 ∧ p.2 ≤ 18 := by
  induction h using Tr.ind with
  | empty d => simp
  | leaf d k hk => simpa using hk
  | blame d b s inner ls hbn c0 c1 hi ih =>
    intro p hp
    obtain ⟨q, hq, rfl⟩ := List.mem_map.1 hp
    exact ih q hq
  | many d b g c vs hbn hgn h0 hn cb cg one hi ih =>
    intro p hp
    obtain ⟨l, hl, hp⟩ := List.mem_flatten.1 hp
    obtain ⟨x, hx, rfl⟩ := List.mem_map.1 hl
    exact ih x hx p hp
theorem has_any (Ad : Nat → Addr) (v : Value) (ls : List (List ByteArray × Nat)) (d : Nat) (w : World) (hE : Env w Ad) (hT : Tr Ad w.heap.size w d v ls) (hd : d ≤ 1000) (k : Nat) (hk : k < 18) :
    Calls Tryz.prog 51 #[v, .int .i64 ((k : Int) + 1)] w fun e w' => e = .returned (.bool (decide (k + 1 ∈ ls.map Prod.snd))) ∧ Below w.heap.size w w' := by
  have h := has_gen Ad Ad v ls d w hE hE.sen hT hd k hk
  have e : decide (∃ p ∈ ls, Ad p.2 = Ad (k + 1)) = decide (k + 1 ∈ ls.map Prod.snd) := by
    apply decide_eq_decide.2
    constructor
    · rintro ⟨p, hp, hq⟩
      have hr := hT.range p hp
      exact List.mem_map.2 ⟨p, hp, hE.inj _ _ hr.1 hr.2 (by omega) (by omega) hq⟩
    · intro hm
      obtain ⟨p, hp, hq⟩ := List.mem_map.1 hm
      exact ⟨p, hp, by rw [hq]⟩
  rw [e] at h
  exact h
end Go.Proofs.YthadfdbkkmmgoaaGreatDoor
namespace Go.Proofs.YthadfdbkkmmgoaaGreatDoor
open Go.RowKit Go.Shelf
/-- The least number of leaves, from k + 1 on; 18: none. -/
def firstK (ns : List Nat) : Nat → Nat → Nat
  | 0, k => k
  | f + 1, k => if k + 1 ∈ ns then k else firstK ns f (k + 1)
/-- What Number answers: 0 of nothing. -/
def numOf (ns : List Nat) : Int := if firstK ns 18 0 < 18 then (firstK ns 18 0 : Int) + 1 else -1
theorem firstK_step {ns : List Nat} {k : Nat} (hk : k < 18) : firstK ns (18 - k) k = if k + 1 ∈ ns then k else firstK ns (18 - (k + 1)) (k + 1) := by
  rw [show 18 - k = (18 - (k + 1)) + 1 by omega]; rfl
set_option maxHeartbeats 800000 in
set_option maxRecDepth 100000 in
theorem number_some (Ad : Nat → Addr) (v : Value) (ls : List (List ByteArray × Nat)) (d : Nat) (w : World) (hE : Env w Ad) (hT : Tr Ad w.heap.size w d v ls) (hd : d ≤ 1000) (hv : ∃ t p, v = .iface t p) :
    Calls Tryz.prog 14 #[v] w fun e w' => e = .returned (.int .i64 (numOf (ls.map Prod.snd))) ∧ Below w.heap.size w w' := by
  obtain ⟨t, p, rfl⟩ := hv
  have HE := hid hE
  have HT := hid hT
  clear hE hT
  go_enter Tryz.func14, Tryz.ntmps14
  go_wp2_with fail
  go_loopw [3] (fun i wr => ∃ k : Nat, k ≤ 18 ∧ i = .int .i64 ((k : Int) + 1) ∧ firstK (ls.map Prod.snd) 18 0 = firstK (ls.map Prod.snd) (18 - k) k ∧ Below w.heap.size w wr) (fun i _ => 20 - (intOf i).toNat)
  case atStart => exact ⟨0, by omega, rfl, rfl, Below.refl _ _⟩
  case round =>
    obtain ⟨k, hk, rfl, hf, hb⟩ := hrel
    have HF := hid hf
    have HB := hid hb
    clear hf hb
    by_cases hlt : k < 18
    · have hki : (k : Int) < 18 := by omega
      have C := hid (has_any Ad (.iface t p) ls d wr (HE.out.later HB.out) (Tr.later HT.out HB.out) hd k hlt)
      have ST := hid (firstK_step (ns := ls.map Prod.snd) hlt)
      by_cases hm : k + 1 ∈ ls.map Prod.snd
      · rw [decide_eq_true hm] at C
        have R : Hid (numOf (ls.map Prod.snd) = (k : Int) + 1) := by
          show numOf _ = _
          unfold numOf
          rw [HF.out, ST.out, if_pos hm, if_pos hlt]
        clear hm ST
        go_wp2_with fail
        refine C.out.mono ?_
        rintro e w3 ⟨rfl, hb3⟩
        have B3 := hid (HB.out.trans (hb3.mono HB.out.size))
        clear hb3
        go_wp2_with fail
        go_ret
        exact ⟨by rw [R.out]; rfl, B3.out⟩
      · rw [decide_eq_false hm] at C
        have R : Hid (firstK (ls.map Prod.snd) 18 0 = firstK (ls.map Prod.snd) (18 - (k + 1)) (k + 1)) := by
          show firstK _ _ _ = _
          rw [HF.out, ST.out, if_neg hm]
        clear hm ST
        go_wp2_with fail
        refine C.out.mono ?_
        rintro e w3 ⟨rfl, hb3⟩
        have B3 := hid (HB.out.trans (hb3.mono HB.out.size))
        clear hb3
        go_wp2_with fail
        go_roundw
        case rel => exact ⟨k + 1, by omega, by congr 1, R.out, B3.out⟩
        case measure => simp [intOf]; omega
    · have hki : ¬ (k : Int) < 18 := by omega
      have R : Hid (numOf (ls.map Prod.snd) = -1) := by
        show numOf _ = _
        unfold numOf
        rw [HF.out, show 18 - k = 0 by omega]
        show (if k < 18 then (k : Int) + 1 else -1) = -1
        rw [if_neg hlt]
      go_wp2_with fail
      go_ret
      exact ⟨by rw [R.out]; rfl, HB.out⟩
set_option maxHeartbeats 800000 in
theorem number_nil (w : World) : Calls Tryz.prog 14 #[.nilIface] w fun e w' => e = .returned (.int .i64 0) ∧ w' = w := by
  go_enter Tryz.func14, Tryz.ntmps14
  go_wp2
  go_ret
  exact ⟨rfl, rfl⟩
end Go.Proofs.YthadfdbkkmmgoaaGreatDoor
namespace Go.Proofs.YthadfdbkkmmgoaaGreatDoor
open Go.RowKit
variable {P : Program} {ops : Array Oper} {Q : Exit → Act → World → Prop} {l n : Nat}
theorem upon_round {o : Oper} {a : Act} {K : Act → World → Prop} : ∀ {r : Result Next}, o.upon P a K Q r → o.uponIn (Fence.wide.inRound l) n P a K Q r
  | .ok (.value _) _, h => h
  | .ok .skip _, h => h
  | .ok (.defer _) _, h => h
  | .ok (.enter _ _) _, h => ⟨fun e => (by cases e), CallsIn.inRound l (callsIn_wide.2 h)⟩
  | .ok (.row _ _) _, h => ⟨fun e => (by cases e), fun c cs _ => let ⟨v, w', r, s⟩ := h c cs; ⟨v, w', r, stepsIn_wide.2 s⟩⟩
  | .ok (.round _ _ _ _ _) _, h => h.elim
  | .halt (.panic _) _, h => h
theorem wpIn_round {o : Oper} {a : Act} {w : World} {K : Act → World → Prop} (hd : ∀ c, o.op ≠ .defer c) (h : o.wp P a w K Q) : o.wpIn (Fence.wide.inRound l) n P a w K Q := by
  refine ⟨fun _ _ => trivial, ?_⟩
  rw [Oper.semAt_plain _ _ _ hd]
  exact upon_round h
/-- No operation defers. -/
def noDefer (ops : Array Oper) : Bool := ops.all fun o => match o.op with | .defer _ => false | _ => true
theorem noDefer_at (h : noDefer ops = true) {i : Nat} {o : Oper} (hi : ops[i]? = some o) : ∀ c, o.op ≠ .defer c := by
  intro c e
  obtain ⟨hlt, rfl⟩ := Array.getElem?_eq_some_iff.1 hi
  have := Array.all_eq_true.1 h i hlt
  rw [e] at this
  cases this
theorem any_round {md : Region.Mode} (hd : noDefer ops = true) (hq : ¬ LetsOut Q) : ∀ (fuel : Nat) (listed : Array Bool) (a : Act) (w : World), wpAny P md ops Q fuel listed a w → wpAnyIn (Fence.wide.inRound l) n P md ops Q fuel listed a w
  | 0, _, _, _, h => h
  | fuel + 1, listed, a, w, h => by
    refine ⟨h.1, fun i hi => ?_⟩
    have h1 := wpOp_mono (K' := wpAnyIn (Fence.wide.inRound l) n P md ops Q fuel (listed.setIfInBounds i true)) (fun a' w' => any_round hd hq fuel _ a' w') (h.2 i hi)
    unfold wpOp at h1
    unfold wpOpIn
    cases ho : ops[i]? with
    | none => rw [ho] at h1; exact h1
    | some o =>
      rw [ho] at h1
      simp only at h1 ⊢
      by_cases hw : Region.wanted o (yielded ops a.tmps) = true
      · rw [if_pos hw] at h1 ⊢
        exact wpIn_round (noDefer_at hd ho) (h1.resolve_right fun h => hq h.2)
      · rw [if_neg hw] at h1 ⊢
        exact ⟨fun _ _ => trivial, h1⟩
theorem region_round0 {id : Nat} {a : Act} {w : World} (hm : P.follows .mixedOrders = true) (hd : noDefer ops = true) (hq : ¬ LetsOut Q)
    (h : wpAny P .any ops Q ops.size (Array.replicate ops.size false) a w.drew) : (Code.region id ops true).wpIn (Fence.wide.inRound l) n P Q a w :=
  wpIn_region_any hm (any_round hd hq _ _ _ _ h)
/-- A region that draws its order, inside a round. -/
theorem region_round {id : Nat} {a : Act} {w : World} (S : World → Prop) (hm : P.follows .mixedOrders = true) (hd : noDefer ops = true) (hq : ¬ LetsOut Q) (hS : S w.drew)
    (h : S w.drew → wpAnyH P .any ops Q S ops.size (Array.replicate ops.size false) a w.drew) : (Code.region id ops true).wpIn (Fence.wide.inRound l) n P Q a w :=
  wpIn_region_any hm (any_round hd hq _ _ _ _ (wpAny_of_held _ _ _ _ (h hS)))
end Go.Proofs.YthadfdbkkmmgoaaGreatDoor
namespace Go.Proofs
open Go.Shelf
open Go.RowKit in
open Go.RowKit in
def Tryz.lays171_ren : Go.Shelf.Ren := ⟨fun | 171 => 127 | 243 => 158 | 246 => 175 | 283 => 192 | 284 => 193 | 285 => 194 | 286 => 195 | 129 => 186 | 317 => 204 | 318 => 205 | 319 => 206 | 320 => 207 | 337 => 210 | 338 => 211 | n => n, fun | 3 => 3 | 9 => 9 | 2 => 2 | 4 => 4 | 171 => 313 | 0 => 0 | 53 => 309 | 37 => 277 | 5 => 5 | 173 => 315 | 212 => 324 | 51 => 45 | 20 => 20 | 213 => 325 | 46 => 39 | 232 => 328 | 233 => 329 | n => n, fun | 17 => 18 | 18 => 19 | 19 => 20 | n => n⟩
theorem Tryz.lays171 : Go.Proofs.Lays.n171 Tryz.prog Tryz.lays171_ren := {
  mixed := by kernel_rfl
  f129 := Tryz.func186.trans (congrArg some (by kernel_rfl))
  f171 := Tryz.func127.trans (congrArg some (by kernel_rfl))
  f243 := Tryz.func158.trans (congrArg some (by kernel_rfl))
  f246 := Tryz.func175.trans (congrArg some (by kernel_rfl))
  f283 := Tryz.func192.trans (congrArg some (by kernel_rfl))
  f284 := Tryz.func193.trans (congrArg some (by kernel_rfl))
  f285 := Tryz.func194.trans (congrArg some (by kernel_rfl))
  f286 := Tryz.func195.trans (congrArg some (by kernel_rfl))
  f317 := Tryz.func204.trans (congrArg some (by kernel_rfl))
  f318 := Tryz.func205.trans (congrArg some (by kernel_rfl))
  f319 := Tryz.func206.trans (congrArg some (by kernel_rfl))
  f320 := Tryz.func207.trans (congrArg some (by kernel_rfl))
  f337 := Tryz.func210.trans (congrArg some (by kernel_rfl))
  f338 := Tryz.func211.trans (congrArg some (by kernel_rfl))
  t0 := Tryz.underlying0
  a0 := Tryz.isAgg0
  z0 := Tryz.sizeOf0
  v0 := Tryz.zeroValue0
  t2 := Tryz.underlying2
  a2 := Tryz.isAgg2
  z2 := Tryz.sizeOf2
  v2 := Tryz.zeroValue2
  t3 := Tryz.underlying3
  a3 := Tryz.isAgg3
  z3 := Tryz.sizeOf3
  v3 := Tryz.zeroValue3
  t4 := Tryz.underlying4
  a4 := Tryz.isAgg4
  z4 := Tryz.sizeOf4
  v4 := Tryz.zeroValue4
  t5 := Tryz.underlying5
  a5 := Tryz.isAgg5
  z5 := Tryz.sizeOf5
  v5 := Tryz.zeroValue5
  t9 := Tryz.underlying9
  a9 := Tryz.isAgg9
  z9 := Tryz.sizeOf9
  v9 := Tryz.zeroValue9
  t20 := Tryz.underlying20
  a20 := Tryz.isAgg20
  z20 := Tryz.sizeOf20
  v20 := Tryz.zeroValue20
  t37 := Tryz.underlying277
  a37 := Tryz.isAgg277
  z37 := Tryz.sizeOf277
  v37 := Tryz.zeroValue277
  t46 := Tryz.underlying39
  a46 := Tryz.isAgg39
  z46 := Tryz.sizeOf39
  v46 := Tryz.zeroValue39
  t51 := Tryz.underlying45
  a51 := Tryz.isAgg45
  z51 := Tryz.sizeOf45
  v51 := Tryz.zeroValue45
  t53 := Tryz.underlying309
  a53 := Tryz.isAgg309
  z53 := Tryz.sizeOf309
  v53 := Tryz.zeroValue309
  t171 := Tryz.underlying313
  a171 := Tryz.isAgg313
  z171 := Tryz.sizeOf313
  v171 := Tryz.zeroValue313
  t173 := Tryz.underlying315
  a173 := Tryz.isAgg315
  z173 := Tryz.sizeOf315
  v173 := Tryz.zeroValue315
  t212 := Tryz.underlying324
  a212 := Tryz.isAgg324
  z212 := Tryz.sizeOf324
  v212 := Tryz.zeroValue324
  t213 := Tryz.underlying325
  a213 := Tryz.isAgg325
  z213 := Tryz.sizeOf325
  t232 := Tryz.underlying328
  a232 := Tryz.isAgg328
  z232 := Tryz.sizeOf328
  v232 := Tryz.zeroValue328
  t233 := Tryz.underlying329
  a233 := Tryz.isAgg329
  z233 := Tryz.sizeOf329
  v233 := Tryz.zeroValue329
  g17 := by kernel_rfl
  g18 := by kernel_rfl
  g19 := by kernel_rfl }
open Go.RowKit Go.Sort Go.Lib in
/-- THE ROAD WITHOUT THE TABLE: 0 <= i < 100: NO PREMISE ON THE WORLD, AND THE WORLD IS AS IT WAS: a row that keeps its argument in that range need list no table ('laid = []'). (LAID: no walk: one application.) -/
theorem Tryz.strconv_Itoa_small (i : Nat) (hi : i < 100) (w : World) :
    Calls Tryz.prog 127 #[.int .i64 i] w fun e w' => e = .returned (.string ⟨(Lib.decDigits i).toArray⟩) ∧ w' = w := Any.strconv_Itoa_small Tryz.lays171 i hi w
end Go.Proofs
