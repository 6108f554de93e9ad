/- Texts in one. -/
import Derived.Laws.StructEq
import Derived.Maps.OwnSet
import Derived.Laws.CopyRow
import Derived.Laws.BitsAllLaws
import Derived.Deep.RegionHeld3
import Derived.Deep.RegionLaw
import Derived.Deep.RegionHeldLaw
import Derived.Deep.AppendLies
import Derived.Deep.QuietTactic
import Derived.BigQuiet
import Derived.Laws.OwnMore
import Derived.Deep.DeepCutAuto
import Derived.Deep.CutRange
import Derived.Deep.LoopGhost
import Derived.Deep.CutBlock
import Derived.Test.YtagjmggiaffihaaGreatDoorMab
namespace Go.Proofs.YtagjmggiaffihaaGreatDoor.Co
open Go.RowKit Go.Shelf Go.Maps
/-- A row is another one. -/
def CS.turned (s : CS) (n : Nat) (p : Pt) : CS := ⟨s.comp, s.w, s.rows.set n p⟩
/-- What is there once a row's cells and its frame are written. -/
theorem Cl.written {B : Nat} {W W' : World} {rb mb g cap : Nat} {cur' : Array Value} {s : CS} (h : Cl B W rb mb (.slice (some ⟨g, 0, none⟩) (s.rows.length * s.w) cap) s) (n : Nat) (p : Pt) (hf : p.fitB s.w = true) (ht : I64 p.t)
    (hcl : s.rows.length * s.w ≤ cap) (hcm : cap ≤ maxLen) (hcs : cur'.size = cap) (hfl : cur'.toList.take (s.rows.length * s.w) = flat s.w (s.rows.set n p)) (hBg : B ≤ g)
    (hbox : W'.heap[rb]? = some (.cells #[.int .i64 s.comp, .int .i64 (s.w : Int), .slice (some ⟨g, 0, none⟩) (s.rows.length * s.w) cap, .map (some mb)] 224 (0, 0)))
    (hg : W'.heap[g]? = some (.cells cur' 3 (0, 0)))
    (D : DataW Unit) (hD : W'.ownsMap Tryz.prog 3 (plainElem Tryz.prog 3) mb (s.rows.length + 1) D) (hH : Holds D (s.rows.set n p)) :
    Cl B W' rb mb (.slice (some ⟨g, 0, none⟩) (s.rows.length * s.w) cap) (s.turned n p) := by
  have hw4 := h.ok.w4
  have hl : (s.rows.set n p).length = s.rows.length := by simp
  refine ⟨hbox, ?_, ⟨D, own_size hD hH.2, hH⟩, ⟨h.ok.w0, hw4, ?_⟩, ?_, h.low⟩
  · show World.ownsRow _ _ _ _ _ ((s.rows.set n p).length * s.w) (flat s.w (s.rows.set n p))
    rw [hl]
    exact ⟨by rw [flat_len hw4, hl]; omega, .inr ⟨g, cap, cur', rfl, hBg, hg, hcl, hcm, by omega, by rw [Nat.mul_one]; exact hfl⟩⟩
  · intro q hq
    rcases List.mem_or_eq_of_mem_set hq with h1 | h1
    · exact h.ok.fit q h1
    · subst h1; exact ⟨hf, ht⟩
  · show (s.rows.set n p).length ≤ 1000
    rw [hl]; exact h.small
set_option maxHeartbeats 3200000 in
set_option maxRecDepth 100000 in
theorem set_ok {B : Nat} {W : World} {rb mb : Nat} {sv : Value} {s : CS} (h : Cl B W rb mb sv s) (n : Nat) (p : Pt) (hp : s.rows[n]? = some p) (j : Nat) (hj : j < s.w) (value frame : Int) (hfr : I64 frame) :
    Calls Tryz.prog 84 #[.pointer (some ⟨rb, 0, none⟩), .int .i64 (n : Int), .int .i64 (j : Int), .int .i64 value, .int .i64 frame] W fun e W' => e = .returned (.tuple #[p.val s.comp, .nilIface]) ∧ ∃ sv', Cl B W' rb mb sv' (s.turned n (p.put j value frame)) ∧ sv'.ownBlock = sv.ownBlock ∧ St (Ft rb mb sv) W W' := by
  have hnl : n < s.rows.length := (List.getElem?_eq_some_iff.1 hp).1
  have hsm := h.small
  obtain ⟨g, cap, cur, hsv, hBg, hg, hLc, hcm, hcs, hfl⟩ := h.cells (by omega)
  subst hsv
  have hw0 := h.ok.w0
  have hw4 := h.ok.w4
  have H := hid h
  have HP := hid hp
  have BA : Hid (Below W.heap.size W (W.alloc (.cells #[.int .i64 0, .int .i64 0, .int .i64 0, .int .i64 0, .int .i64 0, .int .i64 0] 47))) := bAl _ _
  have RW := hid (row_some (h.later BA.out) n p hp)
  have hgW : g < W.heap.size := (h.lt g (.inr (.inr rfl))).2
  have hrW : rb < W.heap.size := (h.lt rb (.inl rfl)).2
  have hmW : mb < W.heap.size := (h.lt mb (.inr (.inl rfl))).2
  have HG := hid hg
  have HFL := hid hfl
  have HFR := hid hfr
  have hji : (j : Int) < (s.w : Int) := by omega
  have hj0 : ¬ ((j : Int) < 0) := by omega
  have hjw : ¬ ((s.w : Int) ≤ (j : Int)) := by omega
  have hwi : (s.w : Int) ≤ 4 := by omega
  unfold Pt.val at RW ⊢
  clear h hp hg hfl hfr
  go_enter Tryz.func84, Tryz.ntmps84
  go_wp2_with fail
  refine RW.out.mono ?_
  rintro e w1 ⟨rfl, hb⟩
  have R1 : Hid (w1.heap[W.heap.size]? = some (.cells (Pt.zero.arr 0) 47 (0, 0))) := blk_seen hb (Nat.le_refl _) (heap_alloc_new W (.cells #[.int .i64 0, .int .i64 0, .int .i64 0, .int .i64 0, .int .i64 0, .int .i64 0] 47))
  have B1 := hid (BA.out.trans (hb.mono BA.out.size))
  have hz1 : W.heap.size < w1.heap.size := by have := hb.size; simp at this; omega
  clear hb RW
  obtain ⟨w2, hw2⟩ : ∃ w2, w2 = w1.alloc (.cells #[.int .i64 s.comp, .int .i64 p.a, .int .i64 p.b, .int .i64 p.c, .int .i64 p.d, .int .i64 p.t] 47) := ⟨_, rfl⟩
  have b12 : Below w1.heap.size w1 w2 := by rw [hw2]; exact bAl _ _
  have B2 := hid (B1.out.trans (b12.mono B1.out.size))
  have R2 := hid (blk_seen b12 (Nat.le_refl _) R1.out)
  have O2 : Hid (w2.heap[w1.heap.size]? = some (.cells (p.arr s.comp) 47 (0, 0))) := by rw [hw2]; exact heap_alloc_new w1 _
  have C2 := hid (H.out.later B2.out)
  have G2 := hid (blk_seen B2.out (Nat.le_refl _) HG.out)
  have HW2 := hid hw2
  have c1 := (H.out.later B1.out).c1
  have hrl := World.block_lt_of_cell? w1 _ c1
  have hrn := World.new_ne w1 _ c1
  have hnw : n * s.w + s.w ≤ s.rows.length * s.w := by rw [← Nat.succ_mul]; exact Nat.mul_le_mul_right _ hnl
  have hL4 : s.rows.length * s.w ≤ 4000 := by have := Nat.mul_le_mul hsm hw4; omega
  have CR := hid (crow_any (W := w2) C2.out.c1 C2.out.c2 (n := n) rfl hnw hLc hL4 hw0 hw4 (by omega))
  clear b12 hw2
  go_wp2_with fail
  rw [← HW2.out]
  refine CR.out.mono ?_
  rintro e w3 ⟨rfl, m, rfl⟩
  obtain ⟨o, ho⟩ : ∃ o, n * s.w = o := ⟨_, rfl⟩
  rw [ho] at hnw
  have hos : o + j < cur.size := by omega
  have cc : (w2.drewN m).cell? ⟨g, o + j, none⟩ = some cur[o + j] := cell_blk (W := w2.drewN m) G2.out (Array.getElem?_eq_getElem hos)
  have cf : (w2.drewN m).frozen? ⟨g, o + j, none⟩ = false := blk_free (W := w2.drewN m) G2.out (o + j)
  rw [ho]
  have HO := hid ho
  clear ho c1 hrl hrn CR
  generalize hcv : cur[o + j] = cv at cc
  clear hcv
  obtain ⟨w4, hw4'⟩ : ∃ w4, w4 = (w2.drewN m).setCell ⟨g, o + j, none⟩ (.int .i64 value) := ⟨_, rfl⟩
  have ngr : g ≠ rb := (C2.out.ne_f g rfl).1
  have ngm : g ≠ mb := (C2.out.ne_f g rfl).2
  have nrm : rb ≠ mb := C2.out.ne_rm
  have s24 : St (fun k => k = g) w2 w4 := by rw [hw4']; exact (drewN_st (fun k => k = g) w2 _).trans (St.setCell (S := fun k => k = g) (p := ⟨g, o + j, none⟩) _ rfl) fun _ _ q => q
  have G4 : Hid (w4.heap[g]? = some (.cells (cur.setIfInBounds (o + j) (.int .i64 value)) 3 (0, 0))) := by rw [hw4']; exact heap_setCell_same (w2.drewN m) g (o + j) cur 3 _ G2.out
  have X4 := hid (s24.at C2.out.box (fun e => ngr e.symm))
  have R4 := hid (s24.at R2.out (by omega))
  have O4 := hid (s24.at O2.out (by omega))
  obtain ⟨D, hD, hH⟩ := C2.out.map
  have hD4 := s24.map hD (fun e => ngm e.symm)
  have hIn : I64 (n : Int) := I64_mid (by omega) (by omega)
  obtain ⟨w5, hmu, hD5, ht5⟩ := hD4.store keyed3 Tryz.underlying222 (by unfold maxLen; omega) (key_int (n : Int) hIn) (plainElem_int Tryz.underlying3 HFR.out)
  have hH5 := hH.set (hD.tidy keyed3) hnl (p.put j value frame) hIn
  rw [Pt.put_t] at hH5
  have s45 := map_st' ht5
  have X5 := hid (s45.at X4.out nrm)
  have G5 := hid (s45.at G4.out ngm)
  have hz2 : w1.heap.size < w2.heap.size := (Array.getElem?_eq_some_iff.1 O2.out).1
  have R5 := hid (s45.at R4.out (by omega))
  have O5 := hid (s45.at O4.out (by omega))
  have S25 : Hid (St (Ft rb mb (.slice (some ⟨g, 0, none⟩) (s.rows.length * s.w) cap)) w2 w5) := (St.trans (S := Ft rb mb (.slice (some ⟨g, 0, none⟩) (s.rows.length * s.w) cap)) ⟨s24.os, s24.tape, s24.output, s24.size, fun k hk hn => s24.block k hk fun e => hn (.inr (.inr (by rw [e]; rfl)))⟩ s45 fun _ _ q => .inr (.inl q))
  have HD5 := hid hD5
  have HH5 := hid hH5
  have k3 := cell_blk X4.out (j := 3) rfl
  have HW4 := hid hw4'
  rw [hw4'] at k3 hmu
  have lg : g < w2.heap.size := by have := B2.out.size; omega
  have lr : rb < w2.heap.size := by have := B2.out.size; omega
  obtain ⟨d0, d1, d2, d3, d4, d5, -, -, -, -, -, -⟩ := lies O5.out
  obtain ⟨x0, x1, x2, x3, x4, x5, f0, f1, f2, f3, f4, f5⟩ := lies R5.out
  clear hD hH hD4 hD5 hH5 ht5 s24 s45 hw4'
  go_wp2_with fail
  have PB := put6_blk R5.out rfl s.comp p
  have PS := put6_st w5 W.heap.size s.comp p
  unfold put6 at PB PS
  obtain ⟨d0, d1, d2, d3, d4, d5, -, -, -, -, -, -⟩ := lies PB
  generalize (((((w5.setCell ⟨W.heap.size, 0, none⟩ (.int .i64 s.comp)).setCell ⟨W.heap.size, 1, none⟩ (.int .i64 p.a)).setCell ⟨W.heap.size, 2, none⟩ (.int .i64 p.b)).setCell ⟨W.heap.size, 3, none⟩ (.int .i64 p.c)).setCell ⟨W.heap.size, 4, none⟩ (.int .i64 p.d)).setCell ⟨W.heap.size, 5, none⟩ (.int .i64 p.t) = w8 at *
  have X8 := PS.at X5.out (by omega)
  have G8 := PS.at G5.out (by omega)
  have D8 := PS.map HD5.out (by omega)
  have hfit := H.out.ok.fit p (List.mem_of_getElem? HP.out)
  have FN := H.out.written n (p.put j value frame) (by rw [Pt.put_fit p hw4 hj]; exact hfit.1) (by rw [Pt.put_t]; exact HFR.out) hLc hcm (by simp; exact hcs) (by
    rw [Array.toList_setIfInBounds, ← HO.out]
    exact set_take hw4 HFL.out HP.out hj value frame) hBg X8 G8 _ D8 HH5.out
  have SF : St (Ft rb mb (.slice (some ⟨g, 0, none⟩) (s.rows.length * s.w) cap)) W w8 := ((St.of_below B2.out).trans S25.out fun _ _ q => q).trans PS fun k hk q => by omega
  exact bodyPost_ret (v := .tuple #[.agg #[.int .i64 s.comp, .int .i64 p.a, .int .i64 p.b, .int .i64 p.c, .int .i64 p.d, .int .i64 p.t], .nilIface]) (by simp [results, Tryz.results84, go_sem, d0, d1, d2, d3, d4, d5]) rfl ⟨rfl, _, FN, rfl, SF⟩
end Go.Proofs.YtagjmggiaffihaaGreatDoor.Co
namespace Go.Proofs.YtagjmggiaffihaaGreatDoor.Co
open Go.RowKit Go.Shelf Go.Maps
set_option maxHeartbeats 800000 in
set_option maxRecDepth 100000 in
theorem put_err (Ad : Nat → Addr) (W : World) (x : Option Addr) (i cm : Int) (p : Pt) (k : Nat)
    (RC : ∀ W', Below W.heap.size W W' → Calls Tryz.prog 94 #[.pointer x, .int .i64 i] W' fun e W'' => ∃ t q, e = .returned (.tuple #[.agg #[.int .i64 0, .int .i64 0, .int .i64 0, .int .i64 0, .int .i64 0, .int .i64 0], .iface t q]) ∧ Err Ad W'' (.iface t q) k 1 ∧ Below W'.heap.size W' W'') :
    Calls Tryz.prog 82 #[.pointer x, .int .i64 i, p.val cm] W fun e W' => ∃ t q, e = .returned (.tuple #[.agg #[.int .i64 0, .int .i64 0, .int .i64 0, .int .i64 0, .int .i64 0, .int .i64 0], .iface t q]) ∧ Err Ad W' (.iface t q) k 2 ∧ Below W.heap.size W W' := by
  have BA : Hid (Below W.heap.size W ((W.alloc (.cells (p.arr cm) 47)).alloc (.cells #[.int .i64 0, .int .i64 0, .int .i64 0, .int .i64 0, .int .i64 0, .int .i64 0] 47))) := (bAl _ _).alloc (by simp) _
  have HC := hid (RC _ BA.out)
  have HH0 : Hid (((W.alloc (.cells (p.arr cm) 47)).alloc (.cells #[.int .i64 0, .int .i64 0, .int .i64 0, .int .i64 0, .int .i64 0, .int .i64 0] 47)).heap[W.heap.size + 1]? = some (.cells (Pt.zero.arr 0) 47 (0, 0))) := by
    have := heap_alloc_new (W.alloc (.cells (p.arr cm) 47)) (.cells #[.int .i64 0, .int .i64 0, .int .i64 0, .int .i64 0, .int .i64 0, .int .i64 0] 47)
    rw [World.size_alloc] at this
    exact this
  clear RC
  have AC := hid (fun s v w h => at_err Ad s v k 1 w h)
  unfold Pt.val
  unfold Pt.arr at HC BA HH0
  go_enter Tryz.func82, Tryz.ntmps82
  go_wp2_with fail
  refine HC.out.mono ?_
  rintro e w1 ⟨t, q, rfl, hv, hb⟩
  have HB := hid (BA.out.trans (hb.mono BA.out.size))
  have HH := hid (blk_seen hb (Nat.le_refl _) HH0.out)
  have HV := hid (hv.later (bAl w1 (.cells #[.int .i64 0, .int .i64 0, .int .i64 0, .int .i64 0, .int .i64 0, .int .i64 0] 47)))
  clear hv hb HC HH0
  go_wp2_with fail
  refine (AC.out _ _ _ HV.out).mono ?_
  rintro e w2 ⟨t2, q2, rfl, hv2, hb2⟩
  have bb := (bAl w1 (.cells #[.int .i64 0, .int .i64 0, .int .i64 0, .int .i64 0, .int .i64 0, .int .i64 0] 47)).trans (hb2.mono (bAl w1 (.cells #[.int .i64 0, .int .i64 0, .int .i64 0, .int .i64 0, .int .i64 0, .int .i64 0] 47)).size)
  have HV2 := hid hv2
  have HB2 := hid (HB.out.trans (bb.mono HB.out.size))
  have HH2 := hid (blk_seen bb (Nat.le_refl _) HH.out)
  obtain ⟨d0, d1, d2, d3, d4, d5, f0, f1, f2, f3, f4, f5⟩ := lies HH2.out
  unfold Pt.zero at d1 d2 d3 d4 d5
  clear hv2 hb2 bb AC HV HH
  go_wp2_with fail
  have PS := put6_same HH2.out
  unfold put6 Pt.zero at PS
  rw [PS]
  exact bodyPost_ret (v := .tuple #[.agg #[.int .i64 0, .int .i64 0, .int .i64 0, .int .i64 0, .int .i64 0, .int .i64 0], .iface t2 q2]) (by simp [results, Tryz.results82, go_sem, d0, d1, d2, d3, d4, d5]) rfl ⟨t2, q2, rfl, HV2.out, HB2.out⟩
theorem put_nil (Ad : Nat → Addr) (W : World) (hE : Env3 W Ad) (i cm : Int) (p : Pt) :
    Calls Tryz.prog 82 #[.pointer none, .int .i64 i, p.val cm] W fun e W' => ∃ t q, e = .returned (.tuple #[.agg #[.int .i64 0, .int .i64 0, .int .i64 0, .int .i64 0, .int .i64 0, .int .i64 0], .iface t q]) ∧ Err Ad W' (.iface t q) 2 2 ∧ Below W.heap.size W W' :=
  put_err Ad W none i cm p 2 fun _ hb => row_nil Ad _ (hE.later hb) i
theorem put_none (Ad : Nat → Addr) {B : Nat} {W : World} {rb mb : Nat} {sv : Value} {s : CS} (h : Cl B W rb mb sv s) (hE : Env3 W Ad) (i cm : Int) (p : Pt) (hi : I64 i) (hr : rowAt s.rows i = none) :
    Calls Tryz.prog 82 #[.pointer (some ⟨rb, 0, none⟩), .int .i64 i, p.val cm] W fun e W' => ∃ t q, e = .returned (.tuple #[.agg #[.int .i64 0, .int .i64 0, .int .i64 0, .int .i64 0, .int .i64 0, .int .i64 0], .iface t q]) ∧ Err Ad W' (.iface t q) 7 2 ∧ Below W.heap.size W W' :=
  put_err Ad W _ i cm p 7 fun _ hb => row_none Ad (h.later hb) (hE.later hb) i hi hr
set_option maxHeartbeats 1600000 in
set_option maxRecDepth 100000 in
theorem put_bad (Ad : Nat → Addr) {B : Nat} {W : World} {rb mb : Nat} {sv : Value} {s : CS} (h : Cl B W rb mb sv s) (hE : Env3 W Ad) (n : Nat) (p : Pt) (hp : s.rows[n]? = some p) (cm : Int) (q : Pt) (hc : cm ≠ s.comp ∨ q.fitB s.w = false) :
    Calls Tryz.prog 82 #[.pointer (some ⟨rb, 0, none⟩), .int .i64 (n : Int), q.val cm] W fun e W' => ∃ t u, e = .returned (.tuple #[.agg #[.int .i64 0, .int .i64 0, .int .i64 0, .int .i64 0, .int .i64 0, .int .i64 0], .iface t u]) ∧ Err Ad W' (.iface t u) 1 2 ∧ Below W.heap.size W W' := by
  have BA : Hid (Below W.heap.size W ((W.alloc (.cells (q.arr cm) 47)).alloc (.cells #[.int .i64 0, .int .i64 0, .int .i64 0, .int .i64 0, .int .i64 0, .int .i64 0] 47))) := (bAl _ _).alloc (by simp) _
  have RW := hid (row_some (h.later BA.out) n p hp)
  have HH0 : Hid (((W.alloc (.cells (q.arr cm) 47)).alloc (.cells #[.int .i64 0, .int .i64 0, .int .i64 0, .int .i64 0, .int .i64 0, .int .i64 0] 47)).heap[W.heap.size + 1]? = some (.cells (Pt.zero.arr 0) 47 (0, 0))) := by
    have := heap_alloc_new (W.alloc (.cells (q.arr cm) 47)) (.cells #[.int .i64 0, .int .i64 0, .int .i64 0, .int .i64 0, .int .i64 0, .int .i64 0] 47)
    rw [World.size_alloc] at this
    exact this
  have PP0 : Hid (((W.alloc (.cells (q.arr cm) 47)).alloc (.cells #[.int .i64 0, .int .i64 0, .int .i64 0, .int .i64 0, .int .i64 0, .int .i64 0] 47)).heap[W.heap.size]? = some (.cells (q.arr cm) 47 (0, 0))) := by
    show _ = _
    rw [Below.heap_alloc _ _ _ (by simp)]; exact heap_alloc_new W _
  have CK := hid (fun W' (hb : Below W.heap.size W W') => check_bad Ad (h.later hb) (hE.later hb) cm q hc)
  have AC := hid (fun s v w h => at_err Ad s v 1 1 w h)
  clear h hE hp hc
  unfold Pt.val at RW CK ⊢
  unfold Pt.arr at BA RW HH0 PP0
  go_enter Tryz.func82, Tryz.ntmps82
  go_wp2_with fail
  refine RW.out.mono ?_
  rintro e w1 ⟨rfl, hb⟩
  have c1 := hb.trans ((bAl w1 (.cells #[.int .i64 s.comp, .int .i64 p.a, .int .i64 p.b, .int .i64 p.c, .int .i64 p.d, .int .i64 p.t] 47)).mono hb.size)
  have B2 := hid (BA.out.trans (c1.mono BA.out.size))
  have H2 := hid (blk_seen c1 (Nat.le_refl _) HH0.out)
  have P2 := hid (blk_seen hb (Nat.le_refl _) PP0.out)
  have k0 := cell_blk P2.out (j := 0) rfl
  have k1 := cell_blk P2.out (j := 1) rfl
  have k2 := cell_blk P2.out (j := 2) rfl
  have k3 := cell_blk P2.out (j := 3) rfl
  have k4 := cell_blk P2.out (j := 4) rfl
  have k5 := cell_blk P2.out (j := 5) rfl
  have hl := World.block_lt_of_cell? w1 _ k0
  have hne := World.new_ne w1 _ k0
  clear hb c1 RW HH0 PP0
  go_wp2_with fail
  refine (CK.out _ B2.out).mono ?_
  rintro e w3 ⟨t3, q3, rfl, hv3, hb3⟩
  have HV3 := hid hv3
  have B3 := hid (B2.out.trans (hb3.mono B2.out.size))
  have H3 := hid (blk_seen hb3 (Nat.le_refl _) H2.out)
  clear hv3 hb3 CK k0 k1 k2 k3 k4 k5 hl hne
  go_wp2_with fail
  refine (AC.out _ _ _ HV3.out).mono ?_
  rintro e w4 ⟨t4, q4, rfl, hv4, hb4⟩
  have HV4 := hid hv4
  have B4 := hid (B3.out.trans (hb4.mono B3.out.size))
  have H4 := hid (blk_seen hb4 (Nat.le_refl _) H3.out)
  obtain ⟨d0, d1, d2, d3, d4, d5, f0, f1, f2, f3, f4, f5⟩ := lies H4.out
  unfold Pt.zero at d1 d2 d3 d4 d5
  clear hv4 hb4 AC
  go_wp2_with fail
  have PS := put6_same H4.out
  unfold put6 Pt.zero at PS
  rw [PS]
  exact bodyPost_ret (v := .tuple #[.agg #[.int .i64 0, .int .i64 0, .int .i64 0, .int .i64 0, .int .i64 0, .int .i64 0], .iface t4 q4]) (by simp [results, Tryz.results82, go_sem, d0, d1, d2, d3, d4, d5]) rfl ⟨t4, q4, rfl, HV4.out, B4.out⟩
end Go.Proofs.YtagjmggiaffihaaGreatDoor.Co
namespace Go.Proofs.YtagjmggiaffihaaGreatDoor.Co
open Go.RowKit Go.Shelf Go.Maps
set_option maxHeartbeats 3200000 in
set_option maxRecDepth 100000 in
theorem put_ok {B : Nat} {W : World} {rb mb : Nat} {sv : Value} {s : CS} (h : Cl B W rb mb sv s) (n : Nat) (p : Pt) (hp : s.rows[n]? = some p) (q : Pt) (hf : q.fitB s.w = true) (ht : I64 q.t) :
    Calls Tryz.prog 82 #[.pointer (some ⟨rb, 0, none⟩), .int .i64 (n : Int), q.val s.comp] W fun e W' => e = .returned (.tuple #[p.val s.comp, .nilIface]) ∧ ∃ sv', Cl B W' rb mb sv' (s.turned n q) ∧ sv'.ownBlock = sv.ownBlock ∧ St (Ft rb mb sv) W W' := by
  have hnl : n < s.rows.length := (List.getElem?_eq_some_iff.1 hp).1
  have hsm := h.small
  obtain ⟨g, cap, cur, hsv, hBg, hg, hLc, hcm, hcs, hfl⟩ := h.cells (by omega)
  subst hsv
  have hw0 := h.ok.w0
  have hw4 := h.ok.w4
  have H := hid h
  have HF := hid hf
  have HT := hid ht
  have BA : Hid (Below W.heap.size W ((W.alloc (.cells (q.arr s.comp) 47)).alloc (.cells #[.int .i64 0, .int .i64 0, .int .i64 0, .int .i64 0, .int .i64 0, .int .i64 0] 47))) := (bAl _ _).alloc (by simp) _
  have RW := hid (row_some (h.later BA.out) n p hp)
  have HH0 : Hid (((W.alloc (.cells (q.arr s.comp) 47)).alloc (.cells #[.int .i64 0, .int .i64 0, .int .i64 0, .int .i64 0, .int .i64 0, .int .i64 0] 47)).heap[W.heap.size + 1]? = some (.cells (Pt.zero.arr 0) 47 (0, 0))) := by
    have := heap_alloc_new (W.alloc (.cells (q.arr s.comp) 47)) (.cells #[.int .i64 0, .int .i64 0, .int .i64 0, .int .i64 0, .int .i64 0, .int .i64 0] 47)
    rw [World.size_alloc] at this
    exact this
  have PP0 : Hid (((W.alloc (.cells (q.arr s.comp) 47)).alloc (.cells #[.int .i64 0, .int .i64 0, .int .i64 0, .int .i64 0, .int .i64 0, .int .i64 0] 47)).heap[W.heap.size]? = some (.cells (q.arr s.comp) 47 (0, 0))) := by
    show _ = _
    rw [Below.heap_alloc _ _ _ (by simp)]; exact heap_alloc_new W _
  have CK := hid (fun W' (hb : Below W.heap.size W W') => check_ok (h.later hb) q hf)
  have hgW : g < W.heap.size := (h.lt g (.inr (.inr rfl))).2
  have hrW : rb < W.heap.size := (h.lt rb (.inl rfl)).2
  have hmW : mb < W.heap.size := (h.lt mb (.inr (.inl rfl))).2
  have HG := hid hg
  have HFL := hid hfl
  have hzz : ((W.alloc (.cells (q.arr s.comp) 47)).alloc (.cells #[.int .i64 0, .int .i64 0, .int .i64 0, .int .i64 0, .int .i64 0, .int .i64 0] 47)).heap.size = W.heap.size + 2 := by simp
  clear h hp hg hfl hf ht
  unfold Pt.val at RW CK ⊢
  unfold Pt.arr at BA RW HH0 PP0 hzz
  have HZZ := hid hzz
  clear hzz
  go_enter Tryz.func82, Tryz.ntmps82
  go_wp2_with fail
  refine RW.out.mono ?_
  rintro e w1 ⟨rfl, hb⟩
  have hz1 : W.heap.size + 2 ≤ w1.heap.size := by have := hb.size; rw [HZZ.out] at this; omega
  have B1 := hid (BA.out.trans (hb.mono BA.out.size))
  have R1 := hid (blk_seen hb (Nat.le_refl _) HH0.out)
  have P1 := hid (blk_seen hb (Nat.le_refl _) PP0.out)
  obtain ⟨w2, hw2⟩ : ∃ w2, w2 = w1.alloc (.cells #[.int .i64 s.comp, .int .i64 p.a, .int .i64 p.b, .int .i64 p.c, .int .i64 p.d, .int .i64 p.t] 47) := ⟨_, rfl⟩
  have b12 : Below w1.heap.size w1 w2 := by rw [hw2]; exact bAl _ _
  have B2 := hid (B1.out.trans (b12.mono B1.out.size))
  have R2 := hid (blk_seen b12 (Nat.le_refl _) R1.out)
  have P2 := hid (blk_seen b12 (Nat.le_refl _) P1.out)
  have O2 : Hid (w2.heap[w1.heap.size]? = some (.cells (p.arr s.comp) 47 (0, 0))) := by rw [hw2]; exact heap_alloc_new w1 _
  have HW2 := hid hw2
  have k0 := cell_blk P1.out (j := 0) rfl
  have k1 := cell_blk P1.out (j := 1) rfl
  have k2 := cell_blk P1.out (j := 2) rfl
  have k3 := cell_blk P1.out (j := 3) rfl
  have k4 := cell_blk P1.out (j := 4) rfl
  have k5 := cell_blk P1.out (j := 5) rfl
  have hl := World.block_lt_of_cell? w1 _ k0
  have hne := World.new_ne w1 _ k0
  clear hb RW HH0 PP0 b12 hw2
  go_wp2_with fail
  rw [← HW2.out]
  refine (CK.out _ B2.out).mono ?_
  rintro e w3 ⟨rfl, hb3⟩
  have B3 := hid (B2.out.trans (hb3.mono B2.out.size))
  have R3 := hid (blk_seen hb3 (Nat.le_refl _) R2.out)
  have P3 := hid (blk_seen hb3 (Nat.le_refl _) P2.out)
  have O3 := hid (blk_seen hb3 (Nat.le_refl _) O2.out)
  have C3 := hid (H.out.later B3.out)
  have G3 := hid (blk_seen B3.out (Nat.le_refl _) HG.out)
  clear hb3 CK k0 k1 k2 k3 k4 k5 hl hne
  have hnw : n * s.w + s.w ≤ s.rows.length * s.w := by rw [← Nat.succ_mul]; exact Nat.mul_le_mul_right _ hnl
  have hL4 : s.rows.length * s.w ≤ 4000 := by have := Nat.mul_le_mul hsm hw4; omega
  have CR := hid (fun m => crow_any (W := w3.drewN m) (seen (drewN_below w3 m) (Nat.le_refl _) C3.out.c1) (seen (drewN_below w3 m) (Nat.le_refl _) C3.out.c2) (n := n) rfl hnw hLc hL4 hw0 hw4 (by omega))
  obtain ⟨cur', hcur'⟩ : ∃ cur', cur' = (cur.toList.take (n * s.w) ++ q.row s.w ++ cur.toList.drop (n * s.w + (q.row s.w).length)).toArray := ⟨_, rfl⟩
  have CP : ∀ m ty, (Builtin.copy_ #[113, 113] ty #[.slice (some ⟨g, n * s.w, none⟩) s.w (cap - n * s.w), .slice (some ⟨W.heap.size, 1, none⟩) 4 4]).run Tryz.prog (w3.drewN m) = .ok (.int .i64 (s.w : Int)) ((w3.drewN m).setRow g cur') := by
    intro m ty
    rw [hcur']
    have hh := run_copy_row (P := Tryz.prog) (w3.drewN m) 113 113 ty 3 g (n * s.w) s.w (cap - n * s.w) ⟨W.heap.size, 1, none⟩ 4 4 cur 3 (q.row s.w) Tryz.underlying113 infoInt G3.out (by rw [q.row_len hw4]; exact (Nat.min_eq_right hw4).symm) (row_src (W := w3.drewN m) P3.out s.w) (by rw [q.row_len hw4]; omega) (row_one _ _)
    rw [hh, q.row_len hw4]
    rfl
  have HCU := hid hcur'
  clear hcur'
  go_wp2_with fail
  go_region_held3 (fun _ => True) (exact trivial)
    ((go_at_call 120; refine (CR.out 1).mono ?_; rintro e w8 ⟨rfl, m, rfl⟩; rw [World.drewN_drewN]))
  obtain ⟨w4, hw4'⟩ : ∃ w4, w4 = (w3.drewN (1 + m)).setRow g cur' := ⟨_, rfl⟩
  rw [← hw4']
  have ngr : g ≠ rb := (C3.out.ne_f g rfl).1
  have ngm : g ≠ mb := (C3.out.ne_f g rfl).2
  have nrm : rb ≠ mb := C3.out.ne_rm
  have s34 : St (fun k => k = g) w3 w4 := by rw [hw4']; exact (drewN_st (fun k => k = g) w3 _).trans (setRow_st _ g _) fun _ _ q => q
  have G4 : Hid (w4.heap[g]? = some (.cells cur' 3 (0, 0))) := by rw [hw4']; exact setRow_heap (w3.drewN (1 + m)) g cur _ 3 _ G3.out
  have X4 := hid (s34.at C3.out.box (fun e => ngr e.symm))
  have R4 := hid (s34.at R3.out (by omega))
  have P4 := hid (s34.at P3.out (by omega))
  have O4 := hid (s34.at O3.out (by omega))
  obtain ⟨D, hD, hH⟩ := C3.out.map
  have hD4 := s34.map hD (fun e => ngm e.symm)
  have hIn : I64 (n : Int) := I64_mid (by omega) (by omega)
  obtain ⟨w5, hmu, hD5, ht5⟩ := hD4.drew.store keyed3 Tryz.underlying222 (by unfold maxLen; omega) (key_int (n : Int) hIn) (plainElem_int Tryz.underlying3 HT.out)
  have hH5 := hH.set (hD.tidy keyed3) hnl q hIn
  have s45 := map_st ht5
  have X5 := hid (s45.at X4.out nrm)
  have G5 := hid (s45.at G4.out ngm)
  have hz2 : w1.heap.size < w3.heap.size := (Array.getElem?_eq_some_iff.1 O3.out).1
  have R5 := hid (s45.at R4.out (by omega))
  have P5 := hid (s45.at P4.out (by omega))
  have O5 := hid (s45.at O4.out (by omega))
  have S35 : Hid (St (Ft rb mb (.slice (some ⟨g, 0, none⟩) (s.rows.length * s.w) cap)) w3 w5) := (St.trans (S := Ft rb mb (.slice (some ⟨g, 0, none⟩) (s.rows.length * s.w) cap)) ⟨s34.os, s34.tape, s34.output, s34.size, fun k hk hn => s34.block k hk fun e => hn (.inr (.inr (by rw [e]; rfl)))⟩ s45 fun _ _ q => .inr (.inl q))
  have HD5 := hid hD5
  have HH5 := hid hH5
  have K4 : Hid (w4.drew.cell? ⟨rb, 3, none⟩ = some (.map (some mb)) ∧ w4.drew.cell? ⟨W.heap.size, 5, none⟩ = some (.int .i64 q.t)) := ⟨cell_blk (W := w4) X4.out rfl, cell_blk (W := w4) P4.out rfl⟩
  have K5 : Hid (w5.cell? ⟨rb, 3, none⟩ = some (.map (some mb)) ∧ w5.cell? ⟨W.heap.size, 5, none⟩ = some (.int .i64 q.t)) := ⟨cell_blk X5.out rfl, cell_blk P5.out rfl⟩
  clear hD hH hD4 hD5 hH5 ht5 s34 s45 hw4' CR CP
  go_wp2_with fail
  go_region_held3 (fun W' => W'.cell? ⟨rb, 3, none⟩ = some (.map (some mb)) ∧ W'.cell? ⟨W.heap.size, 5, none⟩ = some (.int .i64 q.t)) (first | exact K4.out | exact K5.out) (fail)
  clear hmu K4 K5
  obtain ⟨d0, d1, d2, d3, d4, d5, -, -, -, -, -, -⟩ := lies O5.out
  obtain ⟨x0, x1, x2, x3, x4, x5, f0, f1, f2, f3, f4, f5⟩ := lies R5.out
  go_wp2_with fail
  have PB := put6_blk R5.out rfl s.comp p
  have PS := put6_st w5 (W.heap.size + 1) s.comp p
  unfold put6 at PB PS
  obtain ⟨d0, d1, d2, d3, d4, d5, -, -, -, -, -, -⟩ := lies PB
  generalize (((((w5.setCell ⟨W.heap.size + 1, 0, none⟩ (.int .i64 s.comp)).setCell ⟨W.heap.size + 1, 1, none⟩ (.int .i64 p.a)).setCell ⟨W.heap.size + 1, 2, none⟩ (.int .i64 p.b)).setCell ⟨W.heap.size + 1, 3, none⟩ (.int .i64 p.c)).setCell ⟨W.heap.size + 1, 4, none⟩ (.int .i64 p.d)).setCell ⟨W.heap.size + 1, 5, none⟩ (.int .i64 p.t) = w8 at *
  have X8 := PS.at X5.out (by omega)
  have G8 := PS.at G5.out (by omega)
  have D8 := PS.map HD5.out (by omega)
  have FN := H.out.written n q HF.out HT.out hLc hcm (by rw [HCU.out]; simp [q.row_len hw4]; omega) (by
    rw [HCU.out, List.toList_toArray, q.row_len hw4]
    exact splice_take hw4 HFL.out (by simp; omega) hnl q) hBg X8 G8 _ D8 HH5.out
  have SF : St (Ft rb mb (.slice (some ⟨g, 0, none⟩) (s.rows.length * s.w) cap)) W w8 := ((St.of_below B3.out).trans S35.out fun _ _ q => q).trans PS fun k hk q => by omega
  exact bodyPost_ret (v := .tuple #[.agg #[.int .i64 s.comp, .int .i64 p.a, .int .i64 p.b, .int .i64 p.c, .int .i64 p.d, .int .i64 p.t], .nilIface]) (by simp [results, Tryz.results82, go_sem, d0, d1, d2, d3, d4, d5]) rfl ⟨rfl, _, FN, rfl, SF⟩
end Go.Proofs.YtagjmggiaffihaaGreatDoor.Co
namespace Go.Proofs.YtagjmggiaffihaaGreatDoor.Co
open Go.RowKit Go.Shelf Go.Maps
theorem eqA (n : Nat) (h : ∀ (x : Int) (w : World), (Op.equalIn n 3 (.int .i64 x) (.int .i64 x)).run Tryz.prog w = .ok true w) (w : World) (a b c e : Int) : (Op.equalIn (n + 1) 45 (.agg #[.int .i64 a, .int .i64 b, .int .i64 c, .int .i64 e]) (.agg #[.int .i64 a, .int .i64 b, .int .i64 c, .int .i64 e])).run Tryz.prog w = .ok true w := by
  have u32 := Tryz.underlying45
  have a3 := Tryz.isAgg3
  have z3 := Tryz.sizeOf3
  simp only [Op.equalIn, Sem.run_bind, run_underlying u32, Result.andThen_ok, z3]
  simp [Std.Legacy.Range.forIn_eq_forIn_range', Std.Legacy.Range.size, List.range', part, a3, z3, h, go_sem]
theorem eqI (d : Nat) (x : Int) (w : World) : (Op.equalIn (d + 1) 3 (.int .i64 x) (.int .i64 x)).run Tryz.prog w = .ok true w := by
  rw [run_equalIn_int w d 3 .i64 .i64 x x Tryz.underlying3]
  simp
theorem eqPart (x a b c e t : Int) (w : World) : (Op.equalIn 10000 47 (.agg #[.int .i64 x, .int .i64 a, .int .i64 b, .int .i64 c, .int .i64 e, .int .i64 t]) (.agg #[.int .i64 x, .int .i64 a, .int .i64 b, .int .i64 c, .int .i64 e, .int .i64 t])).run Tryz.prog w = .ok true w := by
  have hS : Tryz.prog.underlying 47 = some (.struct (Tryz.prog.fieldsOf 47)) := by kernel_rfl
  have hp : Tryz.prog.stoodInHeld 47 = false := by kernel_rfl
  have h := run_equalIn_agg (P := Tryz.prog) w 9999 47 #[.int .i64 x, .int .i64 a, .int .i64 b, .int .i64 c, .int .i64 e, .int .i64 t] #[.int .i64 x, .int .i64 a, .int .i64 b, .int .i64 c, .int .i64 e, .int .i64 t] hS hp
  have u3 := Tryz.underlying3
  have a3 := Tryz.isAgg3
  have z3 := Tryz.sizeOf3
  have u32 := Tryz.underlying45
  have a32 := Tryz.isAgg45
  have z32 := Tryz.sizeOf45
  have hA : ∀ w, (Op.equalIn 9999 45 (.agg #[.int .i64 a, .int .i64 b, .int .i64 c, .int .i64 e]) (.agg #[.int .i64 a, .int .i64 b, .int .i64 c, .int .i64 e])).run Tryz.prog w = .ok true w := fun w => eqA 9998 (eqI 9997) w a b c e
  simp only [Program.fieldsOf, Tryz.underlying47] at h
  rw [show (10000 : Nat) = 9999 + 1 from rfl, h]
  clear h hS hp
  go_simp
theorem neqP (x a b c e t : Int) (w : World) : (binOp .neq 47 (.agg #[.int .i64 x, .int .i64 a, .int .i64 b, .int .i64 c, .int .i64 e, .int .i64 t]) (.agg #[.int .i64 x, .int .i64 a, .int .i64 b, .int .i64 c, .int .i64 e, .int .i64 t])).run Tryz.prog w = .ok (.bool false) w := by
  simp only [binOp]
  simp [Op.equal, Op.maxDepth, eqPart]
theorem eqlP (x a b c e t : Int) (w : World) : (binOp .eql 47 (.agg #[.int .i64 x, .int .i64 a, .int .i64 b, .int .i64 c, .int .i64 e, .int .i64 t]) (.agg #[.int .i64 x, .int .i64 a, .int .i64 b, .int .i64 c, .int .i64 e, .int .i64 t])).run Tryz.prog w = .ok (.bool true) w := by
  simp only [binOp]
  simp [Op.equal, Op.maxDepth, eqPart]
def gI (n : Nat) : Value := .int .i64 (n : Int)
/-- A row of numbers. -/
def Ints (B : Nat) (W : World) (v : Value) (l : List Nat) : Prop := W.ownsRow B 3 1 v l.length (l.map gI)
theorem Ints.later {B : Nat} {W W' : World} {v : Value} {l : List Nat} (h : Ints B W v l) (hb : Below W.heap.size W W') : Ints B W' v l := own_later h fun _ _ _ hb' => blk_seen hb (Nat.le_refl _) hb'
theorem Ints.slice {B : Nat} {W : World} {v : Value} {l : List Nat} (h : Ints B W v l) : ∃ a c, v = .slice a l.length c := own_slice h
theorem Ints.some {B : Nat} {W : World} {a : Option Addr} {c : Nat} {l : List Nat} (h : Ints B W (.slice a l.length c) l) (h0 : 0 < l.length) : ∃ g, a = Option.some ⟨g, 0, none⟩ ∧ B ≤ g ∧ g < W.heap.size := own_some h h0
theorem Ints.cell {B : Nat} {W : World} {g c : Nat} {l : List Nat} (h : Ints B W (.slice (Option.some ⟨g, 0, none⟩) l.length c) l) {j k : Nat} (hj : l[j]? = Option.some k) : W.cell? ⟨g, j, none⟩ = Option.some (.int .i64 (k : Int)) := by
  have hlt := (List.getElem?_eq_some_iff.1 hj).1
  rw [World.ownsRow.cellAt h j (by omega), List.getElem?_map, hj]
  rfl
/-- append of one number. -/
theorem wpList_num {ops : Array Oper} {rest : List Oper} {o : Oper} {a : Act} {Q : Exit → Act → World → Prop} (hgd : o.guard = none) (s x : Operand)
    (ho : o.op = .call { callee := .builtin .append, args := #[s, x], argTypes := #[113, 113] }) {B : Nat} {wc : World} {v : Value} {l : List Nat} {k : Nat} (hown : Ints B wc v l) (hl : l.length ≤ 1000) (hB : B ≤ wc.heap.size)
    (hs : a.eval s = v) (hx : a.eval x = .slice (some ⟨wc.heap.size, 0, none⟩) 1 1)
    (h : ∀ v' w2, Hid (Ints B w2 v' (l ++ [k])) → Hid (St (fun x => v.ownBlock = some x) wc w2) → wpList Tryz.prog ops Q rest (a.put o.dst v') w2) :
    wpList Tryz.prog ops Q (o :: rest) a (wc.alloc (.cells #[.int .i64 (k : Int)] 3)) := by
  obtain ⟨i0, hi, hz0, hz1, hz2⟩ := info_parts infoInt3
  have hb : Below wc.heap.size wc (wc.alloc (.cells #[.int .i64 (k : Int)] 3)) := bAl _ _
  have ho2 : (wc.alloc (.cells #[.int .i64 (k : Int)] 3)).ownsRow B 3 1 v l.length (l.map gI) := World.ownsRow.alloc hown _
  refine wpList_append_lies _ hgd s x 113 ho B 3 i0 (.int .i64 0) 1 8 Tryz.underlying113 hi hz0 hz1 hz2 rfl (by decide) v l.length (l.map gI) hs ho2 ⟨wc.heap.size, 0, none⟩ 1 1 [gI k] hx rfl (fun j u hu => by
    rw [add_at]
    match j, hu with
    | 0, hu => simp at hu; subst hu; exact new_cell wc _ 3
    | j + 1, hu => simp at hu) (by intro u hu; simp at hu; subst hu; rfl) (by decide) (by unfold maxLen; omega) (by omega) (by simp; omega) (wc.heap.size + 1) (by simp) ?_
  intro g' cap w2 ow hg hat hlt
  refine h _ w2 ?_ ((St.of_below hb).trans (St.of_grown (S := fun x => v.ownBlock = some x) hg fun k e => e) fun _ _ q => q)
  show World.ownsRow _ _ _ _ _ _ _
  have e : (l ++ [k]).length = l.length + 1 := by simp
  rw [e, List.map_append]
  exact ow
/-- The rows that were changed in a frame or behind it, among the first k. -/
def since (l : List Pt) (f : Int) : Nat → List Nat
  | 0 => []
  | k + 1 => if f ≤ tickAt l (k : Int) then since l f k ++ [k] else since l f k
theorem since_len (l : List Pt) (f : Int) (k : Nat) : (since l f k).length ≤ k := by
  induction k with
  | zero => simp [since]
  | succ k ih =>
    unfold since
    split
    · simp; omega
    · omega
set_option maxHeartbeats 1600000 in
set_option maxRecDepth 100000 in
theorem since_any {B : Nat} {W : World} {rb mb : Nat} {sv : Value} {s : CS} (h : Cl B W rb mb sv s) (f : Int) :
    Calls Tryz.prog 89 #[.pointer (some ⟨rb, 0, none⟩), .int .i64 f] W fun e W' => ∃ v, e = .returned v ∧ Ints W.heap.size W' v (since s.rows f s.rows.length) ∧ Below W.heap.size W W' := by
  have H := hid h
  have LN := hid (len_any h)
  have hsm := h.small
  have hsi : (s.rows.length : Int) ≤ 1000 := by omega
  clear h
  go_enter Tryz.func89, Tryz.ntmps89
  go_wp2_with fail
  refine LN.out.mono ?_
  rintro e w1 ⟨rfl, rfl⟩
  clear LN
  go_wp2_with fail
  go_loopw [5, 6, 9] (fun lv _ i wr => ∃ k : Nat, k ≤ s.rows.length ∧ i = .int .i64 (k : Int) ∧ Hid (Ints w1.heap.size wr lv (since s.rows f k)) ∧ Hid (Below w1.heap.size w1 wr)) (fun _ _ i _ => s.rows.length - (intOf i).toNat)
  case atStart => exact ⟨0, Nat.zero_le _, rfl, World.ownsRow_nil _ _ _ _, Below.refl _ _⟩
  case round =>
    obtain ⟨k, hk, rfl, HL, HB⟩ := hrel
    by_cases hlt : k < s.rows.length
    · have hki : (k : Int) < (s.rows.length : Int) := by omega
      have R1 := hid (H.out.later HB.out)
      have c3 := R1.out.c3
      obtain ⟨D, hD, hH⟩ := R1.out.map
      have LK := look_one hD hH (k : Int) (I64_mid (by omega) (by omega))
      clear hD hH
      have e2 := hid (show since s.rows f (k + 1) = if f ≤ tickAt s.rows (k : Int) then since s.rows f k ++ [k] else since s.rows f k from rfl)
      generalize tickAt s.rows (k : Int) = tk at *
      by_cases hge : f ≤ tk
      · rw [if_pos hge] at e2
        have hul : (since s.rows f k).length ≤ 1000 := by have := since_len s.rows f k; omega
        have hw1 : w1.heap.size ≤ wr.heap.size := HB.out.size
        have hrl : rb < wr.heap.size := World.block_lt_of_cell? wr _ c3
        obtain ⟨la, lc, rfl⟩ := Ints.slice HL.out
        go_wp2_with (at_builtin; refine wpList_num rfl _ _ rfl HL.out hul hw1 rfl rfl ?_; intro v' w2 ho hst)
        have b2 : Hid (Below w1.heap.size w1 w2) := HB.out.trans (hst.out.below (fun x hx => (World.ownsRow.lt HL.out x hx).1) hw1)
        exact ⟨⟨k + 1, by omega, by go_num, by rw [e2.out]; exact ho.out, b2.out⟩, by simp [intOf]; omega⟩
      · rw [if_neg hge] at e2
        go_wp2_with fail
        go_roundw
        case rel => exact ⟨k + 1, by omega, by go_num, by rw [e2.out]; exact HL.out, HB.out⟩
        case measure => simp [intOf]; omega
    · have hki : ¬ ((k : Int) < (s.rows.length : Int)) := by omega
      have e1 : Hid (k = s.rows.length) := by show k = _; omega
      go_wp2_with fail
      go_ret
      exact ⟨_, rfl, by rw [← e1.out]; exact HL.out, HB.out⟩
set_option maxHeartbeats 400000 in
theorem since_nil (f : Int) (W : World) : Calls Tryz.prog 89 #[.pointer none, .int .i64 f] W fun e W' => e = .returned (.slice none 0 0) ∧ W' = W := by
  have LN := hid (len_nil W)
  go_enter Tryz.func89, Tryz.ntmps89
  go_wp2_with fail
  refine LN.out.mono ?_
  rintro e w1 ⟨rfl, rfl⟩
  clear LN
  go_wp2_with fail
  go_loop [5, 9] (fun l i => l = .slice none 0 0 ∧ i = .int .i64 0) (fun _ _ => 0)
  case atStart => exact ⟨rfl, rfl⟩
  case round =>
    obtain ⟨rfl, rfl⟩ := hrel
    go_wp2_with fail
    go_ret
    exact ⟨rfl, rfl⟩
end Go.Proofs.YtagjmggiaffihaaGreatDoor.Co
namespace Go.Proofs.YtagjmggiaffihaaGreatDoor.Co
open Go.RowKit Go.Shelf Go.Maps
/-- A column whose blocks are S. -/
def Col (B : Nat) (W : World) (rb : Nat) (s : CS) (S : Nat → Prop) : Prop := ∃ mb sv, Cl B W rb mb sv s ∧ ∀ k, S k ↔ Ft rb mb sv k
section
variable {B : Nat} {W W' : World} {rb : Nat} {s : CS} {S : Nat → Prop}
theorem Col.kept {T : Nat → Prop} (h : Col B W rb s S) (hs : St T W W') (hd : ∀ k, S k → ¬ T k) : Col B W' rb s S := by
  obtain ⟨mb, sv, h1, h2⟩ := h
  exact ⟨mb, sv, h1.kept hs fun k hk => hd k ((h2 k).2 hk), h2⟩
theorem Col.later (h : Col B W rb s S) (hb : Below W.heap.size W W') : Col B W' rb s S := h.kept (T := fun _ => False) (St.of_below hb) fun _ _ q => q
theorem Col.lt (h : Col B W rb s S) (k : Nat) (hk : S k) : B ≤ k ∧ k < W.heap.size := by
  obtain ⟨mb, sv, h1, h2⟩ := h
  exact h1.lt k ((h2 k).1 hk)
theorem Col.ok (h : Col B W rb s S) : s.ok := by obtain ⟨mb, sv, h1, h2⟩ := h; exact h1.ok
theorem Col.small (h : Col B W rb s S) : s.rows.length ≤ 1000 := by obtain ⟨mb, sv, h1, h2⟩ := h; exact h1.small
theorem Col.base (h : Col B W rb s S) : B ≤ W.heap.size := by obtain ⟨mb, sv, h1, h2⟩ := h; exact h1.base
theorem Col.below (h : Col B W rb s S) (hs : St S W W') : Below B W W' := hs.below (fun k hk => (h.lt k hk).1) h.base
theorem col_new (W : World) (c : Int) (w : Nat) (h0 : 0 ≤ c) (h1 : c ≤ 15) (hw0 : 1 ≤ w) (hw : w ≤ 4) :
    Calls Tryz.prog 138 #[.int .i64 c, .int .i64 (w : Int)] W fun e W' => ∃ rb S, e = .returned (.tuple #[.pointer (some ⟨rb, 0, none⟩), .nilIface]) ∧ Col W.heap.size W' rb ⟨c, w, []⟩ S ∧ Below W.heap.size W W' := by
  refine (new_some W c w h0 h1 hw0 hw).mono ?_
  rintro e w1 ⟨rfl, h, hb⟩
  exact ⟨_, _, rfl, ⟨_, _, h, fun _ => Iff.rfl⟩, hb⟩
theorem col_push (h : Col B W rb s S) (p : Pt) (hf : p.fitB s.w = true) (ht : I64 p.t) (hsm : s.rows.length < 1000) :
    Calls Tryz.prog 139 #[.pointer (some ⟨rb, 0, none⟩), p.val s.comp] W fun e W' => e = .returned (.tuple #[.int .i64 (s.rows.length : Int), .nilIface]) ∧ ∃ S', Col B W' rb ⟨s.comp, s.w, s.rows ++ [p]⟩ S' ∧ St S W W' ∧ ∀ x, S' x → S x ∨ W.heap.size ≤ x := by
  obtain ⟨mb, sv, h1, h2⟩ := h
  refine (push_ok h1 p hf ht hsm).mono ?_
  rintro e w ⟨rfl, sv', h3, h4, h5⟩
  refine ⟨rfl, _, ⟨mb, sv', h3, fun _ => Iff.rfl⟩, ⟨h5.os, h5.tape, h5.output, h5.size, fun k hk hn => h5.block k hk fun q => hn ((h2 k).2 q)⟩, fun x hx => ?_⟩
  rcases hx with hx | hx | hx
  · exact .inl ((h2 x).2 (.inl hx))
  · exact .inl ((h2 x).2 (.inr (.inl hx)))
  · rcases h4 with h4 | ⟨y, h4, h6⟩
    · exact .inl ((h2 x).2 (.inr (.inr (h4 ▸ hx))))
    · rw [h4] at hx; simp at hx; exact .inr (by omega)
theorem col_pushbad (Ad : Nat → Addr) (h : Col B W rb s S) (hE : Env3 W Ad) (cm : Int) (p : Pt) (hc : cm ≠ s.comp ∨ p.fitB s.w = false) :
    Calls Tryz.prog 139 #[.pointer (some ⟨rb, 0, none⟩), p.val cm] W fun e W' => ∃ t q, e = .returned (.tuple #[.int .i64 0, .iface t q]) ∧ Err Ad W' (.iface t q) 1 2 ∧ Below W.heap.size W W' := by
  obtain ⟨mb, sv, h1, h2⟩ := h
  exact push_bad Ad h1 hE cm p hc
theorem col_row (h : Col B W rb s S) (n : Nat) (p : Pt) (hp : s.rows[n]? = some p) :
    Calls Tryz.prog 94 #[.pointer (some ⟨rb, 0, none⟩), .int .i64 (n : Int)] W fun e W' => e = .returned (.tuple #[p.val s.comp, .nilIface]) ∧ Below W.heap.size W W' := by
  obtain ⟨mb, sv, h1, h2⟩ := h
  exact row_some h1 n p hp
theorem col_rownone (Ad : Nat → Addr) (h : Col B W rb s S) (hE : Env3 W Ad) (i : Int) (hi : I64 i) (hr : rowAt s.rows i = none) :
    Calls Tryz.prog 94 #[.pointer (some ⟨rb, 0, none⟩), .int .i64 i] W fun e W' => ∃ t q, e = .returned (.tuple #[.agg #[.int .i64 0, .int .i64 0, .int .i64 0, .int .i64 0, .int .i64 0, .int .i64 0], .iface t q]) ∧ Err Ad W' (.iface t q) 7 1 ∧ Below W.heap.size W W' := by
  obtain ⟨mb, sv, h1, h2⟩ := h
  exact row_none Ad h1 hE i hi hr
theorem col_take (h : Col B W rb s S) (n : Nat) (p : Pt) (hp : s.rows[n]? = some p) (pl : Pt) (hpl : s.rows[s.rows.length - 1]? = some pl) :
    Calls Tryz.prog 141 #[.pointer (some ⟨rb, 0, none⟩), .int .i64 (n : Int)] W fun e W' => e = .returned (.tuple #[p.val s.comp, .nilIface]) ∧ Col B W' rb (s.taken n pl) S ∧ St S W W' := by
  obtain ⟨mb, sv, h1, h2⟩ := h
  refine (take_ok h1 n p hp pl hpl).mono ?_
  rintro e w ⟨rfl, sv', h3, h4, h5⟩
  refine ⟨rfl, ⟨mb, sv', h3, fun k => ?_⟩, ⟨h5.os, h5.tape, h5.output, h5.size, fun k hk hn => h5.block k hk fun q => hn ((h2 k).2 q)⟩⟩
  rw [h2 k]
  unfold Ft
  rw [h4]
theorem col_takenone (Ad : Nat → Addr) (h : Col B W rb s S) (hE : Env3 W Ad) (i : Int) (hi : I64 i) (hr : rowAt s.rows i = none) :
    Calls Tryz.prog 141 #[.pointer (some ⟨rb, 0, none⟩), .int .i64 i] W fun e W' => ∃ t q, e = .returned (.tuple #[.agg #[.int .i64 0, .int .i64 0, .int .i64 0, .int .i64 0, .int .i64 0, .int .i64 0], .iface t q]) ∧ Err Ad W' (.iface t q) 7 2 ∧ Below W.heap.size W W' := by
  obtain ⟨mb, sv, h1, h2⟩ := h
  exact take_none Ad h1 hE i hi hr
theorem col_len (h : Col B W rb s S) : Calls Tryz.prog 124 #[.pointer (some ⟨rb, 0, none⟩)] W fun e W' => e = .returned (.int .i64 (s.rows.length : Int)) ∧ W' = W := by
  obtain ⟨mb, sv, h1, h2⟩ := h
  exact len_any h1
theorem col_since (h : Col B W rb s S) (f : Int) : Calls Tryz.prog 89 #[.pointer (some ⟨rb, 0, none⟩), .int .i64 f] W fun e W' => ∃ v, e = .returned v ∧ Ints W.heap.size W' v (since s.rows f s.rows.length) ∧ Below W.heap.size W W' := by
  obtain ⟨mb, sv, h1, h2⟩ := h
  exact since_any h1 f
end
theorem Env3.same {w : World} {Ad : Nat → Addr} (h : Env3 w Ad) {p k : Nat} (hp : p ∈ three) (hk : k ∈ three) : decide (Ad p = Ad k) = decide (p = k) := by
  by_cases e : p = k
  · subst e; simp
  · have : Ad p ≠ Ad k := fun h' => e (h.inj p hp k hk h')
    simp [e, this]
theorem is_err (Ad : Nat → Addr) {W : World} {v : Value} {p k d : Nat} (hE : Env3 W Ad) (h : Err Ad W v p d) (hp : p ∈ three) (hk : k ∈ three) :
    Calls Tryz.prog 13 #[v, .iface 278 (.pointer (some (Ad k)))] W fun e W' => e = .returned (.bool (decide (p = k))) ∧ Below W.heap.size W W' := by
  obtain ⟨ws, h⟩ := h
  obtain ⟨t, q, rfl, -⟩ := h.1.shape
  refine is_by Ad k t q _ W ((eis_gen Ad W.heap.size k W ws _ p (hE.sen p hp) (hE.sen k hk) (hE.same hp hk) h.1).mono ?_)
  rintro e w' ⟨rfl, rfl⟩
  exact ⟨rfl, Below.refl _ _⟩
theorem ints_one (W : World) (k : Nat) : Ints W.heap.size (W.alloc (.cells #[.int .i64 (k : Int)] 3)) (.slice (some ⟨W.heap.size, 0, none⟩) 1 1) [k] :=
  ⟨rfl, .inr ⟨W.heap.size, 1, #[.int .i64 (k : Int)], rfl, Nat.le_refl _, heap_alloc_new W _, Nat.le_refl _, by unfold maxLen; omega, rfl, rfl⟩⟩
theorem balloc {w0 W : World} (h : Below w0.heap.size w0 W) (o : Obj) : Below w0.heap.size w0 (W.alloc o) := h.alloc h.size o
end Go.Proofs.YtagjmggiaffihaaGreatDoor.Co
namespace Go.Proofs.YtagjmggiaffihaaGreatDoor.Co
open Go.RowKit Go.Shelf Go.Maps
section
variable {B : Nat} {W : World} {rb : Nat} {s : CS} {S : Nat → Prop}
theorem col_set (h : Col B W rb s S) (n : Nat) (p : Pt) (hp : s.rows[n]? = some p) (j : Nat) (hj : j < s.w) (value frame : Int) (hfr : I64 frame) :
    Calls Tryz.prog 84 #[.pointer (some ⟨rb, 0, none⟩), .int .i64 (n : Int), .int .i64 (j : Int), .int .i64 value, .int .i64 frame] W fun e W' => e = .returned (.tuple #[p.val s.comp, .nilIface]) ∧ Col B W' rb (s.turned n (p.put j value frame)) S ∧ St S W W' := by
  obtain ⟨mb, sv, h1, h2⟩ := h
  refine (set_ok h1 n p hp j hj value frame hfr).mono ?_
  rintro e w ⟨rfl, sv', h3, h4, h5⟩
  refine ⟨rfl, ⟨mb, sv', h3, fun k => ?_⟩, ⟨h5.os, h5.tape, h5.output, h5.size, fun k hk hn => h5.block k hk fun q => hn ((h2 k).2 q)⟩⟩
  rw [h2 k]
  unfold Ft
  rw [h4]
theorem col_setnone (Ad : Nat → Addr) (h : Col B W rb s S) (hE : Env3 W Ad) (i cell value frame : Int) (hi : I64 i) (hr : rowAt s.rows i = none) :
    Calls Tryz.prog 84 #[.pointer (some ⟨rb, 0, none⟩), .int .i64 i, .int .i64 cell, .int .i64 value, .int .i64 frame] W fun e W' => ∃ t q, e = .returned (.tuple #[.agg #[.int .i64 0, .int .i64 0, .int .i64 0, .int .i64 0, .int .i64 0, .int .i64 0], .iface t q]) ∧ Err Ad W' (.iface t q) 7 2 ∧ Below W.heap.size W W' := by
  obtain ⟨mb, sv, h1, h2⟩ := h
  exact set_none Ad h1 hE i cell value frame hi hr
theorem col_setcell (Ad : Nat → Addr) (h : Col B W rb s S) (hE : Env3 W Ad) (n : Nat) (p : Pt) (hp : s.rows[n]? = some p) (cell value frame : Int) (hc : cell < 0 ∨ (s.w : Int) ≤ cell) :
    Calls Tryz.prog 84 #[.pointer (some ⟨rb, 0, none⟩), .int .i64 (n : Int), .int .i64 cell, .int .i64 value, .int .i64 frame] W fun e W' => ∃ t q, e = .returned (.tuple #[.agg #[.int .i64 0, .int .i64 0, .int .i64 0, .int .i64 0, .int .i64 0, .int .i64 0], .iface t q]) ∧ Err Ad W' (.iface t q) 1 2 ∧ Below W.heap.size W W' := by
  obtain ⟨mb, sv, h1, h2⟩ := h
  exact set_cell Ad h1 hE n p hp cell value frame hc
theorem col_put (h : Col B W rb s S) (n : Nat) (p : Pt) (hp : s.rows[n]? = some p) (q : Pt) (hf : q.fitB s.w = true) (ht : I64 q.t) :
    Calls Tryz.prog 82 #[.pointer (some ⟨rb, 0, none⟩), .int .i64 (n : Int), q.val s.comp] W fun e W' => e = .returned (.tuple #[p.val s.comp, .nilIface]) ∧ Col B W' rb (s.turned n q) S ∧ St S W W' := by
  obtain ⟨mb, sv, h1, h2⟩ := h
  refine (put_ok h1 n p hp q hf ht).mono ?_
  rintro e w ⟨rfl, sv', h3, h4, h5⟩
  refine ⟨rfl, ⟨mb, sv', h3, fun k => ?_⟩, ⟨h5.os, h5.tape, h5.output, h5.size, fun k hk hn => h5.block k hk fun q => hn ((h2 k).2 q)⟩⟩
  rw [h2 k]
  unfold Ft
  rw [h4]
theorem col_putnone (Ad : Nat → Addr) (h : Col B W rb s S) (hE : Env3 W Ad) (i cm : Int) (p : Pt) (hi : I64 i) (hr : rowAt s.rows i = none) :
    Calls Tryz.prog 82 #[.pointer (some ⟨rb, 0, none⟩), .int .i64 i, p.val cm] W fun e W' => ∃ t q, e = .returned (.tuple #[.agg #[.int .i64 0, .int .i64 0, .int .i64 0, .int .i64 0, .int .i64 0, .int .i64 0], .iface t q]) ∧ Err Ad W' (.iface t q) 7 2 ∧ Below W.heap.size W W' := by
  obtain ⟨mb, sv, h1, h2⟩ := h
  exact put_none Ad h1 hE i cm p hi hr
theorem col_putbad (Ad : Nat → Addr) (h : Col B W rb s S) (hE : Env3 W Ad) (n : Nat) (p : Pt) (hp : s.rows[n]? = some p) (cm : Int) (q : Pt) (hc : cm ≠ s.comp ∨ q.fitB s.w = false) :
    Calls Tryz.prog 82 #[.pointer (some ⟨rb, 0, none⟩), .int .i64 (n : Int), q.val cm] W fun e W' => ∃ t u, e = .returned (.tuple #[.agg #[.int .i64 0, .int .i64 0, .int .i64 0, .int .i64 0, .int .i64 0, .int .i64 0], .iface t u]) ∧ Err Ad W' (.iface t u) 1 2 ∧ Below W.heap.size W W' := by
  obtain ⟨mb, sv, h1, h2⟩ := h
  exact put_bad Ad h1 hE n p hp cm q hc
end
end Go.Proofs.YtagjmggiaffihaaGreatDoor.Co
namespace Go.Proofs.YtagjmggiaffihaaGreatDoor.At
open Go.RowKit Go.Shelf Go.Maps
theorem Tryz.laidOut : laidOutB Tryz.prog = true := by kernel_rfl
theorem keyed33 : Keyed Tryz.prog 49 := int_keyed Tryz.underlying49
theorem zero3 (w : World) : (zeroValue 3).run Tryz.prog w = .ok (.int .i64 0) w := by kernel_rfl
def I64 (i : Int) : Prop := (Lit.int .i64 i).wf = true
theorem I64_mid {n : Int} (h0 : -1000000 ≤ n) (h1 : n ≤ 1000000) : I64 n := by
  unfold I64 Lit.wf
  simp [IntKind.min, IntKind.max, IntKind.signed, IntKind.bits]
  omega
theorem U32_wf {m : Nat} (h : m < 4294967296) : (Lit.int .u32 (m : Int)).wf = true := by
  unfold Lit.wf
  simp [IntKind.min, IntKind.max, IntKind.signed, IntKind.bits]
  omega
theorem key_u32 (m : Nat) (h : m < 4294967296) : keyOf Tryz.prog 49 (.int .u32 (m : Int)) = some (.int .u32 (m : Int)) := keyOf_int_mk Tryz.underlying49 (U32_wf h)
def gM (m : Nat) : Value := .int .u32 (m : Int)
def gI (n : Nat) : Value := .int .i64 (n : Int)
/-- The first set without the second. -/
def an (a b : Nat) : Nat := a &&& (4294967295 - b)
theorem an_bit (a b i : Nat) (ha : a < 4294967296) (hb : b < 4294967296) : (an a b).testBit i = (a.testBit i && !b.testBit i) := by
  unfold an
  rw [Nat.testBit_and, show 4294967295 - b = 2 ^ 32 - (b + 1) by omega, Nat.testBit_two_pow_sub_succ (by omega)]
  by_cases h : i < 32
  · simp [h]
  · have : a.testBit i = false := Nat.testBit_lt_two_pow (Nat.lt_of_lt_of_le ha (show 2 ^ 32 ≤ 2 ^ i from Nat.pow_le_pow_right (by decide) (by omega)))
    simp [this]
theorem an_le (a b : Nat) : an a b ≤ a := Nat.and_le_left
theorem pow_le {n : Nat} (h : n ≤ 16) : 2 ^ n ≤ 65536 := Nat.pow_le_pow_right (by decide) h
theorem pow32 {c : Nat} (h : c < 32) : 2 ^ c < 4294967296 := Nat.lt_of_lt_of_le (Nat.pow_lt_pow_right (by decide) h) (by decide)
theorem bit_out {a n i : Nat} (h : a < 2 ^ n) (hi : n ≤ i) : a.testBit i = false := Nat.testBit_lt_two_pow (Nat.lt_of_lt_of_le h (Nat.pow_le_pow_right (by decide) hi))
theorem lt_of_bits {a n : Nat} (h : ∀ i, n ≤ i → a.testBit i = false) : a < 2 ^ n := Nat.lt_pow_two_of_testBit a h
theorem bits_or32 (a b : Nat) (ha : a < 4294967296) (hb : b < 4294967296) : bits .or .u32 (a : Int) (b : Int) = ((a ||| b : Nat) : Int) := u32_or_nat a b ha hb
theorem bits_and32 (a b : Nat) (ha : a < 4294967296) (hb : b < 4294967296) : bits .and .u32 (a : Int) (b : Int) = ((a &&& b : Nat) : Int) := u32_and_nat a b ha hb
theorem bits_xor32 (a b : Nat) (ha : a < 4294967296) (hb : b < 4294967296) : bits .xor .u32 (a : Int) (b : Int) = ((a ^^^ b : Nat) : Int) := u32_xor_nat a b ha hb
theorem bits_an32 (a b : Nat) (ha : a < 4294967296) (hb : b < 4294967296) : bits .andNot .u32 (a : Int) (b : Int) = ((an a b : Nat) : Int) := u32_andNot_nat a b ha hb
/-- A set with a component more; with one less. -/
def wi (m c : Nat) : Nat := m ||| 2 ^ c
def wo (m c : Nat) : Nat := an m (2 ^ c)
theorem wi_bit (m c i : Nat) : (wi m c).testBit i = (m.testBit i || decide (c = i)) := by
  unfold wi; rw [Nat.testBit_or, Nat.testBit_two_pow]
theorem wo_bit (m c i : Nat) (hm : m < 4294967296) (hc : c < 32) : (wo m c).testBit i = (m.testBit i && !decide (c = i)) := by
  unfold wo; rw [an_bit _ _ _ hm (pow32 hc), Nat.testBit_two_pow]
theorem wi_lt {m c n : Nat} (hm : m < 2 ^ n) (hc : c < n) : wi m c < 2 ^ n := Nat.or_lt_two_pow hm (Nat.pow_lt_pow_right (by decide) hc)
theorem wo_lt {m c n : Nat} (hm : m < 2 ^ n) : wo m c < 2 ^ n := Nat.lt_of_le_of_lt (an_le _ _) hm
theorem within_iff {m n : Nat} (hm : m < 4294967296) (hn : n ≤ 16) : an m (2 ^ n - 1) = 0 ↔ m < 2 ^ n := by
  have hp := pow_le hn
  have hp0 : 0 < 2 ^ n := Nat.two_pow_pos n
  constructor
  · intro h
    refine lt_of_bits fun i hi => ?_
    have := an_bit m (2 ^ n - 1) i hm (by omega)
    rw [h, Nat.zero_testBit, Nat.testBit_two_pow_sub_one, decide_eq_false (by omega)] at this
    simpa using this.symm
  · intro h
    refine Nat.eq_of_testBit_eq fun i => ?_
    rw [an_bit m (2 ^ n - 1) i hm (by omega), Nat.zero_testBit, Nat.testBit_two_pow_sub_one]
    by_cases hi : i < n
    · simp [hi]
    · rw [bit_out h (by omega)]; rfl
/-- A node for a set: where it is there is none made. -/
def add (l : List Nat) (m : Nat) : List Nat := if m ∈ l then l else l ++ [m]
theorem idx_add (l : List Nat) (m : Nat) : (add l m).idxOf m = l.idxOf m := by
  unfold add
  split
  · rfl
  · rename_i h
    rw [List.idxOf_append, if_neg h, List.idxOf_eq_length h]
    simp
theorem idx_get {l : List Nat} {m : Nat} (h : m ∈ l) : l[l.idxOf m]? = some m := by
  have hl := List.idxOf_lt_length_of_mem h
  rw [List.getElem?_eq_getElem hl]
  simp
theorem add_mem (l : List Nat) (m : Nat) : m ∈ add l m := by unfold add; split <;> simp_all
theorem add_get (l : List Nat) (m : Nat) : (add l m)[l.idxOf m]? = some m := by
  rw [← idx_add]; exact idx_get (add_mem l m)
theorem mem_add {l : List Nat} {m x : Nat} : x ∈ add l m ↔ x ∈ l ∨ x = m := by
  unfold add
  split
  · rename_i h
    exact ⟨.inl, fun q => q.elim id fun e => e ▸ h⟩
  · simp
theorem add_nodup {l : List Nat} (h : l.Nodup) (m : Nat) : (add l m).Nodup := by
  unfold add
  split
  · exact h
  · rename_i hm
    rw [List.nodup_append]
    exact ⟨h, by simp, fun a ha b hb e => hm (by simp at hb; subst hb; exact e ▸ ha)⟩
theorem add_old {l : List Nat} {i : Nat} (m : Nat) (h : i < l.length) : (add l m)[i]? = l[i]? := by
  unfold add
  split
  · rfl
  · rw [List.getElem?_append_left h]
theorem add_len (l : List Nat) (m : Nat) : l.length ≤ (add l m).length ∧ (add l m).length ≤ l.length + 1 := by
  unfold add; split <;> simp
theorem add_pre (l : List Nat) (m : Nat) : l <+: add l m := by
  unfold add
  split
  · exact List.prefix_refl l
  · exact List.prefix_append l [m]
theorem idx_of {l : List Nat} (h : l.Nodup) {i m : Nat} (hi : l[i]? = some m) : l.idxOf m = i := by
  have hm : m ∈ l := List.mem_of_getElem? hi
  have hl := List.idxOf_lt_length_of_mem hm
  obtain ⟨h1, h2⟩ := List.getElem?_eq_some_iff.1 hi
  have e := idx_get hm
  rw [List.getElem?_eq_getElem hl] at e
  exact (List.getElem_inj h).1 ((Option.some.inj e).trans h2.symm)
theorem idx_le (l : List Nat) (m : Nat) : l.idxOf m ≤ l.length := List.idxOf_le_length
theorem idx_lt_add (l : List Nat) (m : Nat) : l.idxOf m < (add l m).length := by
  rw [← idx_add]; exact List.idxOf_lt_length_of_mem (add_mem l m)
theorem few_of {l : List Nat} {N : Nat} (h : l.Nodup) (hl : ∀ x ∈ l, x < N) : l.length ≤ N := by
  have := h.length_le_of_subset (l₂ := List.range N) fun x hx => List.mem_range.2 (hl x hx)
  simpa using this
/-- What the map of the nodes says. -/
def Holds (D : DataW Unit) (l : List Nat) : Prop :=
  (∀ m : Nat, m < 4294967296 → Maps.has D (.int .u32 (m : Int)) = decide (m ∈ l) ∧ D.atKey (.int .u32 (m : Int)) (.lit (.int .i64 0)) = .lit (.int .i64 (if m ∈ l then (l.idxOf m : Int) else 0))) ∧ Maps.size D = l.length
theorem isKeyU (i : Int) : WideAt.IsKeyLit (.int .u32 i) := trivial
theorem key_ne {i j : Nat} (h : i ≠ j) : (Lit.int .u32 (i : Int)) ≠ .int .u32 (j : Int) := fun e => by
  have : (i : Int) = (j : Int) := by simpa using e
  exact h (by exact_mod_cast this)
theorem Holds.snoc {D : DataW Unit} {l : List Nat} (hD : Tidy D) (h : Holds D l) {m : Nat} (hm : m ∉ l) (hm32 : m < 4294967296) : Holds (D.put (.int .u32 (m : Int)) (.lit (.int .i64 (l.length : Int)))) (l ++ [m]) := by
  refine ⟨fun i hi => ?_, ?_⟩
  · by_cases e : i = m
    · subst e
      rw [Maps.has_put_same hD.isMap (isKeyU _) _, Maps.atKey_put_same hD.isMap (isKeyU _) _ _, if_pos (by simp), List.idxOf_append, if_neg hm]
      simp
    · rw [Maps.has_put_other (key_ne e), Maps.atKey_put_other (key_ne e), (h.1 i hi).1, (h.1 i hi).2]
      have : i ∈ l ++ [m] ↔ i ∈ l := by simp [e]
      by_cases hl : i ∈ l
      · rw [if_pos hl, if_pos (this.2 hl), List.idxOf_append, if_pos hl]
        simp [hl]
      · rw [if_neg hl, if_neg (fun q => hl (this.1 q))]
        simp [hl, e]
  · rw [Maps.size_put hD, (h.1 m hm32).1, h.2]
    simp [hm]
/-- A map bears no more than what it reads as. -/
theorem own_size {W : World} {mb n : Nat} {D : DataW Unit} (h : W.ownsMap Tryz.prog 49 (plainElem Tryz.prog 3) mb n D) {m : Nat} (hm : Maps.size D = m) : W.ownsMap Tryz.prog 49 (plainElem Tryz.prog 3) mb m D := by
  obtain ⟨es, clock, hb, F, _, rfl⟩ := h
  refine ⟨es, clock, hb, F, ?_, rfl⟩
  rw [← hm]
  simp [Maps.size, length_sorted]
theorem look_two {W : World} {mb n : Nat} {D : DataW Unit} {l : List Nat} (h : W.ownsMap Tryz.prog 49 (plainElem Tryz.prog 3) mb n D) (hH : Holds D l) (m : Nat) (hm : m < 4294967296) :
    (Instr.lookup 185 (.map (some mb)) (.int .u32 (m : Int)) true).run Tryz.prog W = .ok (.tuple #[.int .i64 (if m ∈ l then (l.idxOf m : Int) else 0), .bool (decide (m ∈ l))]) W := by
  obtain ⟨v, ps, hr, hv⟩ := h.look_ok keyed33 Tryz.underlying185 (zero3 W) (plainElem_int Tryz.underlying3 (by decide)) (key_u32 m hm)
  obtain ⟨a, rfl, e, _⟩ := plainElem_int_inv Tryz.underlying3 hv
  rw [(hH.1 m hm).2] at e
  simp only [Prod.mk.injEq, DataW.lit.injEq, Lit.int.injEq, true_and] at e
  rw [hr, (hH.1 m hm).1, e.1]
end Go.Proofs.YtagjmggiaffihaaGreatDoor.At
namespace Go.Proofs.YtagjmggiaffihaaGreatDoor.At
open Go.RowKit Go.Shelf Go.Maps
/-- Outside S all lies as it lay. -/
structure St (S : Nat → Prop) (W W' : World) : Prop where
  os : W'.os = W.os
  tape : W'.tape = W.tape
  output : W'.output = W.output
  size : W.heap.size ≤ W'.heap.size
  block : ∀ k, k < W.heap.size → ¬ S k → W'.heap[k]? = W.heap[k]?
theorem St.refl (S : Nat → Prop) (W : World) : St S W W := ⟨rfl, rfl, rfl, Nat.le_refl _, fun _ _ _ => rfl⟩
theorem St.trans {S T : Nat → Prop} {a b c : World} (h : St S a b) (k : St T b c) (hs : ∀ x, x < a.heap.size → T x → S x) : St S a c :=
  ⟨k.os.trans h.os, k.tape.trans h.tape, k.output.trans h.output, Nat.le_trans h.size k.size, fun x hx hn => (k.block x (Nat.lt_of_lt_of_le hx h.size) (fun q => hn (hs x hx q))).trans (h.block x hx hn)⟩
theorem St.of_below {S : Nat → Prop} {a b : World} (h : Below a.heap.size a b) : St S a b := ⟨h.os, h.tape, h.output, h.size, fun k hk _ => h.block k hk⟩
theorem St.of_grown {S : Nat → Prop} {a b : World} {row : Option Nat} (h : a.grownBy b row) (hS : ∀ k, row = some k → S k) : St S a b :=
  ⟨h.os, h.tape, h.output, h.size, fun k hk hn => h.block k hk (fun e => hn (hS k e.symm))⟩
theorem St.below {S : Nat → Prop} {a b : World} {B : Nat} (h : St S a b) (hS : ∀ k, S k → B ≤ k) (hB : B ≤ a.heap.size) : Below B a b :=
  ⟨h.os, h.tape, h.output, h.size, fun k hk => h.block k (by omega) (fun q => by have := hS k q; omega)⟩
theorem St.setCell {S : Nat → Prop} {a : World} {p : Addr} (v : Value) (hp : S p.block) : St S a (a.setCell p v) :=
  ⟨rfl, rfl, rfl, by simp, fun k _ hn => Below.heap_setCell _ _ _ _ (fun e => hn (e ▸ hp))⟩
theorem St.at {S : Nat → Prop} {W W' : World} {b : Nat} {o : Obj} (hs : St S W W') (h : W.heap[b]? = some o) (hn : ¬ S b) : W'.heap[b]? = some o := (hs.block b (Array.getElem?_eq_some_iff.1 h).1 hn).trans h
theorem bAl (W : World) (o : Obj) : Below W.heap.size W (W.alloc o) := (Below.refl _ _).alloc (Nat.le_refl _) _
theorem cell_blk {W : World} {b j : Nat} {cs : Array Value} {e : TypeId} {u : Value} (h : W.heap[b]? = some (.cells cs e (0, 0))) (hj : cs[j]? = some u) : W.cell? ⟨b, j, none⟩ = some u := by
  rw [cell_of_row _ _ j _ e (0, 0) h]; exact hj
theorem blk_free {W : World} {b : Nat} {cs : Array Value} {e : TypeId} (h : W.heap[b]? = some (.cells cs e (0, 0))) (j : Nat) : W.frozen? ⟨b, j, none⟩ = false := by
  unfold World.frozen?
  rw [show (⟨b, j, none⟩ : Addr).block = b from rfl, h]
  simp
theorem blk_seen {W W' : World} {B b : Nat} {o : Obj} (hb : Below B W W') (hB : W.heap.size ≤ B) (h : W.heap[b]? = some o) : W'.heap[b]? = some o := (hb.block b (Nat.lt_of_lt_of_le (Array.getElem?_eq_some_iff.1 h).1 hB)).trans h
theorem seen {B : Nat} {W W' : World} (hb : Below B W W') (hB : W.heap.size ≤ B) {p : Addr} {u : Value} (h : W.cell? p = some u) : W'.cell? p = some u := (hb.cell (p := p) (Nat.lt_of_lt_of_le (World.block_lt_of_cell? W p h) hB)).trans h
/-- An atlas: how many components there are, the nodes' sets. -/
structure AS where
  n : Nat
  l : List Nat
structure AS.ok (s : AS) : Prop where
  n16 : s.n ≤ 16
  nd : s.l.Nodup
  lt : ∀ m ∈ s.l, m < 2 ^ s.n
theorem AS.ok.small {s : AS} (h : s.ok) : s.l.length ≤ 65536 := Nat.le_trans (few_of h.nd h.lt) (pow_le h.n16)
theorem AS.ok.u16 {s : AS} (h : s.ok) {m : Nat} (hm : m ∈ s.l) : m < 65536 := Nat.lt_of_lt_of_le (h.lt m hm) (pow_le h.n16)
def AS.put (s : AS) (m : Nat) : AS := ⟨s.n, add s.l m⟩
theorem AS.ok.put {s : AS} (h : s.ok) {m : Nat} (hm : m < 2 ^ s.n) : (s.put m).ok :=
  ⟨h.n16, add_nodup h.nd m, fun x hx => (mem_add.1 hx).elim (h.lt x) fun e => e ▸ hm⟩
/-- The blocks of an atlas. -/
def Ft (rb mb : Nat) (sv : Value) (k : Nat) : Prop := k = rb ∨ k = mb ∨ sv.ownBlock = some k
/-- An atlas in memory. -/
structure Cl (B : Nat) (W : World) (rb mb : Nat) (sv : Value) (s : AS) : Prop where
  box : W.heap[rb]? = some (.cells #[.int .u32 ((2 ^ s.n - 1 : Nat) : Int), sv, .map (some mb)] 187 (0, 0))
  row : W.ownsRow B 49 1 sv s.l.length (s.l.map gM)
  map : ∃ D, W.ownsMap Tryz.prog 49 (plainElem Tryz.prog 3) mb s.l.length D ∧ Holds D s.l
  ok : s.ok
  low : B ≤ rb ∧ B ≤ mb
section
variable {B : Nat} {W W' : World} {rb mb : Nat} {sv : Value} {s : AS}
theorem Cl.kept {T : Nat → Prop} (h : Cl B W rb mb sv s) (hs : St T W W') (hd : ∀ k, Ft rb mb sv k → ¬ T k) : Cl B W' rb mb sv s := by
  have lt := fun {k : Nat} {o : Obj} (h : W.heap[k]? = some o) => (Array.getElem?_eq_some_iff.1 h).1
  refine ⟨(hs.block rb (lt h.box) (hd _ (.inl rfl))).trans h.box, ?_, ?_, h.ok, h.low⟩
  · exact own_later h.row fun g cur hg hb => (hs.block g (lt hb) (hd _ (.inr (.inr hg)))).trans hb
  · obtain ⟨D, ⟨es, clock, hb, q⟩, hH⟩ := h.map
    exact ⟨D, ⟨es, clock, (hs.block mb (lt hb) (hd _ (.inr (.inl rfl)))).trans hb, q⟩, hH⟩
theorem Cl.later (h : Cl B W rb mb sv s) (hb : Below W.heap.size W W') : Cl B W' rb mb sv s := h.kept (T := fun _ => False) (St.of_below hb) (fun _ _ q => q)
theorem Cl.lt (h : Cl B W rb mb sv s) (k : Nat) (hk : Ft rb mb sv k) : B ≤ k ∧ k < W.heap.size := by
  have lt := fun {k : Nat} {o : Obj} (h : W.heap[k]? = some o) => (Array.getElem?_eq_some_iff.1 h).1
  rcases hk with rfl | rfl | hk
  · exact ⟨h.low.1, lt h.box⟩
  · obtain ⟨D, hD, _⟩ := h.map; exact ⟨h.low.2, hD.lt⟩
  · exact h.row.lt k hk
theorem Cl.base (h : Cl B W rb mb sv s) : B ≤ W.heap.size := by have := h.lt rb (.inl rfl); omega
theorem Cl.c0 (h : Cl B W rb mb sv s) : W.cell? ⟨rb, 0, none⟩ = some (.int .u32 ((2 ^ s.n - 1 : Nat) : Int)) := cell_blk h.box rfl
theorem Cl.c1 (h : Cl B W rb mb sv s) : W.cell? ⟨rb, 1, none⟩ = some sv := cell_blk h.box rfl
theorem Cl.c2 (h : Cl B W rb mb sv s) : W.cell? ⟨rb, 2, none⟩ = some (.map (some mb)) := cell_blk h.box rfl
theorem Cl.ne_rm (h : Cl B W rb mb sv s) : rb ≠ mb := fun e => by
  have h1 := h.box
  obtain ⟨D, ⟨es, cl, hb, _⟩, _⟩ := h.map
  rw [e, hb] at h1
  simp at h1
theorem Cl.ne_f (h : Cl B W rb mb sv s) (k : Nat) (hk : sv.ownBlock = some k) : k ≠ rb ∧ k ≠ mb := by
  rcases h.row.2 with ⟨h1, _⟩ | ⟨g, cap, cur, h1, h2, h3, h4⟩
  · rw [h1] at hk; simp [Value.ownBlock] at hk
  · rw [h1] at hk
    have e : g = k := by simpa [Value.ownBlock] using hk
    subst e
    refine ⟨fun e => ?_, fun e => ?_⟩
    · rw [e, h.box] at h3; simp at h3
    · obtain ⟨D, ⟨es, cl, hb, _⟩, _⟩ := h.map
      rw [e, hb] at h3; simp at h3
theorem Cl.cell (h : Cl B W rb mb sv s) {i m : Nat} (hi : s.l[i]? = some m) : ∃ g cap, sv = .slice (some ⟨g, 0, none⟩) s.l.length cap ∧ W.cell? ⟨g, i, none⟩ = some (.int .u32 (m : Int)) := by
  have hlt := (List.getElem?_eq_some_iff.1 hi).1
  obtain ⟨a, c, rfl⟩ := own_slice h.row
  obtain ⟨g, rfl, -, -⟩ := own_some h.row (by omega)
  refine ⟨g, c, rfl, ?_⟩
  rw [World.ownsRow.cellAt h.row i (by omega), List.getElem?_map, hi]
  rfl
end
/-- An atlas whose blocks are S. -/
def Atl (B : Nat) (W : World) (rb : Nat) (s : AS) (S : Nat → Prop) : Prop := ∃ mb sv, Cl B W rb mb sv s ∧ ∀ k, S k ↔ Ft rb mb sv k
/-- What a call that may make nodes leaves. -/
def Goes (B rb : Nat) (s' : AS) (S : Nat → Prop) (W W' : World) : Prop := ∃ S', Atl B W' rb s' S' ∧ St S W W' ∧ ∀ x, S' x → S x ∨ W.heap.size ≤ x
section
variable {B : Nat} {W W' : World} {rb : Nat} {s : AS} {S : Nat → Prop}
theorem Atl.kept {T : Nat → Prop} (h : Atl B W rb s S) (hs : St T W W') (hd : ∀ k, S k → ¬ T k) : Atl B W' rb s S := by
  obtain ⟨mb, sv, h1, h2⟩ := h
  exact ⟨mb, sv, h1.kept hs fun k hk => hd k ((h2 k).2 hk), h2⟩
theorem Atl.later (h : Atl B W rb s S) (hb : Below W.heap.size W W') : Atl B W' rb s S := h.kept (T := fun _ => False) (St.of_below hb) fun _ _ q => q
theorem Atl.lt (h : Atl B W rb s S) (k : Nat) (hk : S k) : B ≤ k ∧ k < W.heap.size := by
  obtain ⟨mb, sv, h1, h2⟩ := h
  exact h1.lt k ((h2 k).1 hk)
theorem Atl.ok (h : Atl B W rb s S) : s.ok := by obtain ⟨mb, sv, h1, h2⟩ := h; exact h1.ok
theorem Atl.base (h : Atl B W rb s S) : B ≤ W.heap.size := by obtain ⟨mb, sv, h1, h2⟩ := h; exact h1.base
theorem Atl.below (h : Atl B W rb s S) (hs : St S W W') : Below B W W' := hs.below (fun k hk => (h.lt k hk).1) h.base
theorem Atl.lower {B' : Nat} (h : Atl B W rb s S) (hB : B' ≤ B) : Atl B' W rb s S := by
  obtain ⟨mb, sv, h1, h2⟩ := h
  refine ⟨mb, sv, ⟨h1.box, ⟨h1.row.1, ?_⟩, h1.map, h1.ok, by have := h1.low; omega, by have := h1.low; omega⟩, h2⟩
  rcases h1.row.2 with q | ⟨g, cap, cur, q1, q2, q3⟩
  · exact .inl q
  · exact .inr ⟨g, cap, cur, q1, by omega, q3⟩
theorem Goes.stay (h : Atl B W rb s S) (hb : Below W.heap.size W W') : Goes B rb s S W W' := ⟨S, h.later hb, St.of_below hb, fun _ q => .inl q⟩
theorem Goes.trans {s1 s2 : AS} {W1 W2 : World} (h : Goes B rb s1 S W W1) (hn : ∀ S1, Atl B W1 rb s1 S1 → Goes B rb s2 S1 W1 W2) : Goes B rb s2 S W W2 := by
  obtain ⟨S1, a1, st1, f1⟩ := h
  obtain ⟨S2, a2, st2, f2⟩ := hn S1 a1
  refine ⟨S2, a2, st1.trans st2 fun x hx q => (f1 x q).elim id fun q => by omega, fun x q => ?_⟩
  rcases f2 x q with q | q
  · exact f1 x q
  · exact .inr (by have := st1.size; omega)
end
set_option maxHeartbeats 400000 in
theorem len_nil (W : World) : Calls Tryz.prog 92 #[.pointer none] W fun e W' => e = .returned (.int .i64 0) ∧ W' = W := by
  go_enter Tryz.func92, Tryz.ntmps92
  go_wp2
  go_ret
  exact ⟨rfl, rfl⟩
set_option maxHeartbeats 800000 in
theorem atl_len {B : Nat} {W : World} {rb : Nat} {s : AS} {S : Nat → Prop} (h : Atl B W rb s S) :
    Calls Tryz.prog 92 #[.pointer (some ⟨rb, 0, none⟩)] W fun e W' => e = .returned (.int .i64 (s.l.length : Int)) ∧ W' = W := by
  obtain ⟨mb, sv, h1, h2⟩ := h
  have c1 := h1.c1
  obtain ⟨a, c, rfl⟩ := own_slice h1.row
  clear h1 h2
  go_enter Tryz.func92, Tryz.ntmps92
  go_wp2
  go_ret
  exact ⟨rfl, rfl⟩
end Go.Proofs.YtagjmggiaffihaaGreatDoor.At
namespace Go.Proofs.YtagjmggiaffihaaGreatDoor.At
open Go.RowKit Go.Shelf Go.Maps
/-- The set of one number. -/
def bitI (n : Int) : Int := if 0 ≤ n ∧ n < 32 then 2 ^ n.toNat % 4294967296 else 0
set_option maxHeartbeats 800000 in
theorem bit_low (n : Int) (w : World) (h : n < 0) : Calls Tryz.prog 98 #[.int .i64 n] w fun e w' => e = .returned (.int .u32 0) ∧ w' = w := by
  go_enter Tryz.func98, Tryz.ntmps98
  go_wp2
  go_ret
  exact ⟨rfl, rfl⟩
set_option maxHeartbeats 800000 in
theorem bit_high (n : Int) (w : World) (h : 32 ≤ n) : Calls Tryz.prog 98 #[.int .i64 n] w fun e w' => e = .returned (.int .u32 0) ∧ w' = w := by
  have h0 : ¬ n < 0 := by omega
  go_enter Tryz.func98, Tryz.ntmps98
  go_wp2
  go_ret
  exact ⟨rfl, rfl⟩
set_option maxHeartbeats 800000 in
theorem bit_in (n : Nat) (w : World) (h : n < 32) : Calls Tryz.prog 98 #[.int .i64 (n : Int)] w fun e w' => e = .returned (.int .u32 (2 ^ n % 4294967296)) ∧ w' = w := by
  have h0 : ¬ (n : Int) < 0 := by omega
  have h1 : ¬ (32 : Int) ≤ n := by omega
  go_enter Tryz.func98, Tryz.ntmps98
  go_wp2
  go_ret
  exact ⟨rfl, rfl⟩
theorem bit_any (n : Int) (w : World) : Calls Tryz.prog 98 #[.int .i64 n] w fun e w' => e = .returned (.int .u32 (bitI n)) ∧ w' = w := by
  by_cases h0 : n < 0
  · rw [show bitI n = 0 from if_neg (by omega)]; exact bit_low n w h0
  · by_cases h1 : 32 ≤ n
    · rw [show bitI n = 0 from if_neg (by omega)]; exact bit_high n w h1
    · obtain ⟨k, rfl⟩ := Int.eq_ofNat_of_zero_le (show 0 ≤ n by omega)
      rw [show bitI (k : Int) = 2 ^ k % 4294967296 from (if_pos (by omega)).trans (by rw [Int.toNat_natCast])]
      exact bit_in k w (by omega)
theorem bitI_in (k : Nat) (hk : k < 32) : bitI (k : Int) = ((2 ^ k : Nat) : Int) := by
  have hp : 2 ^ k < 4294967296 := pow32 hk
  unfold bitI
  rw [if_pos (by omega), Int.toNat_natCast]
  have : (2 : Int) ^ k = ((2 ^ k : Nat) : Int) := (Int.natCast_pow 2 k).symm
  rw [this]
  exact Int.emod_eq_of_lt (Int.natCast_nonneg _) (by generalize 2 ^ k = p at hp ⊢; omega)
theorem bitI_out (n : Int) (h : ¬ (0 ≤ n ∧ n < 32)) : bitI n = 0 := if_neg h
set_option maxHeartbeats 800000 in
theorem with_any (m n : Int) (w : World) : Calls Tryz.prog 49 #[.int .u32 m, .int .i64 n] w fun e w' => e = .returned (.int .u32 (bits .or .u32 m (bitI n))) ∧ w' = w := by
  have BC := hid (bit_any n w)
  go_enter Tryz.func49, Tryz.ntmps49
  go_wp2_with fail
  refine BC.out.mono ?_
  rintro e w1 ⟨rfl, rfl⟩
  go_wp2_with fail
  go_ret
  exact ⟨rfl, rfl⟩
set_option maxHeartbeats 800000 in
theorem sethas_any (m n : Int) (w : World) : Calls Tryz.prog 47 #[.int .u32 m, .int .i64 n] w fun e w' => e = .returned (.bool (bits .and .u32 m (bitI n) != 0)) ∧ w' = w := by
  have BC := hid (bit_any n w)
  go_enter Tryz.func47, Tryz.ntmps47
  go_wp2_with fail
  refine BC.out.mono ?_
  rintro e w1 ⟨rfl, rfl⟩
  go_wp2_with fail
  go_ret
  exact ⟨rfl, rfl⟩
set_option maxHeartbeats 800000 in
theorem within_any (m a : Int) (w : World) : Calls Tryz.prog 87 #[.int .u32 m, .int .u32 a] w fun e w' => e = .returned (.bool (bits .andNot .u32 m a == 0)) ∧ w' = w := by
  go_enter Tryz.func87, Tryz.ntmps87
  go_wp2
  go_ret
  exact ⟨rfl, rfl⟩
theorem with_in (m c : Nat) (hm : m < 4294967296) (hc : c < 32) (w : World) : Calls Tryz.prog 49 #[.int .u32 (m : Int), .int .i64 (c : Int)] w fun e w' => e = .returned (.int .u32 ((wi m c : Nat) : Int)) ∧ w' = w := by
  have := with_any (m : Int) (c : Int) w
  rw [bitI_in c hc, bits_or32 m _ hm (pow32 hc)] at this
  exact this
theorem cast_beq0 (a : Nat) : (((a : Nat) : Int) == 0) = decide (a = 0) := by
  rw [Bool.eq_iff_iff]
  simp
theorem within_nat (m a : Nat) (hm : m < 4294967296) (ha : a < 4294967296) (w : World) : Calls Tryz.prog 87 #[.int .u32 (m : Int), .int .u32 (a : Int)] w fun e w' => e = .returned (.bool (decide (an m a = 0))) ∧ w' = w := by
  have := within_any (m : Int) (a : Int) w
  rw [bits_an32 m a hm ha, cast_beq0] at this
  exact this
/-- Whether a number is in a set. -/
theorem and_pow (m k : Nat) : (m &&& 2 ^ k ≠ 0) ↔ m.testBit k = true := by
  have hb : (m &&& 2 ^ k).testBit k = m.testBit k := by rw [Nat.testBit_and, Nat.testBit_two_pow_self, Bool.and_true]
  cases ht : m.testBit k with
  | true =>
    rw [ht] at hb
    exact ⟨fun _ => rfl, fun _ h0 => by rw [h0] at hb; simp at hb⟩
  | false =>
    have : m &&& 2 ^ k = 0 := Nat.eq_of_testBit_eq fun i => by
      rw [Nat.testBit_and, Nat.testBit_two_pow, Nat.zero_testBit]
      by_cases hik : k = i
      · subst hik; rw [ht]; rfl
      · rw [decide_eq_false hik, Bool.and_false]
    simp [this]
theorem sethas_in (m k : Nat) (hm : m < 4294967296) (hk : k < 32) (w : World) : Calls Tryz.prog 47 #[.int .u32 (m : Int), .int .i64 (k : Int)] w fun e w' => e = .returned (.bool (m.testBit k)) ∧ w' = w := by
  have := sethas_any (m : Int) (k : Int) w
  have e : (((m &&& 2 ^ k : Nat) : Int) != 0) = m.testBit k := by
    rw [bne, cast_beq0, Bool.eq_iff_iff, ← and_pow]
    simp
  rw [bitI_in k hk, bits_and32 m _ hm (pow32 hk), e] at this
  exact this
theorem sethas_all (n : Nat) (hn : n ≤ 16) (c : Int) (w : World) : Calls Tryz.prog 47 #[.int .u32 ((2 ^ n - 1 : Nat) : Int), .int .i64 c] w fun e w' => e = .returned (.bool (decide (0 ≤ c ∧ c < n))) ∧ w' = w := by
  have hp := pow_le hn
  have hp0 : 0 < 2 ^ n := Nat.two_pow_pos n
  by_cases h : 0 ≤ c ∧ c < 32
  · obtain ⟨k, rfl⟩ := Int.eq_ofNat_of_zero_le h.1
    have := sethas_in (2 ^ n - 1) k (by omega) (by omega) w
    rw [Nat.testBit_two_pow_sub_one] at this
    have e : decide (k < n) = decide ((0 : Int) ≤ k ∧ (k : Int) < n) := by
      rw [Bool.eq_iff_iff]; simp
    rw [e] at this
    exact this
  · have := sethas_any ((2 ^ n - 1 : Nat) : Int) c w
    have e : bits .and .u32 ((2 ^ n - 1 : Nat) : Int) (bitI c) = ((0 : Nat) : Int) := by
      rw [bitI_out c h, show (0 : Int) = ((0 : Nat) : Int) from rfl, bits_and32 _ 0 (by omega) (by decide), Nat.and_zero]
    rw [e] at this
    rw [decide_eq_false (by omega)]
    exact this
end Go.Proofs.YtagjmggiaffihaaGreatDoor.At
namespace Go.Proofs.YtagjmggiaffihaaGreatDoor.At
open Go.RowKit Go.Shelf Go.Maps
theorem infoInt3 : (Tryz.prog.info? 3).map (fun i => (i.zero, i.size, i.bytes)) = some (some (.int .i64 0), 1, 8) := by kernel_rfl
theorem infoInt33 : (Tryz.prog.info? 49).map (fun i => (i.zero, i.size, i.bytes)) = some (some (.int .u32 0), 1, 4) := by kernel_rfl
/-- A row of numbers. -/
def Ints (B : Nat) (W : World) (v : Value) (l : List Nat) : Prop := W.ownsRow B 3 1 v l.length (l.map gI)
theorem Ints.kept {B : Nat} {W W' : World} {v : Value} {l : List Nat} {T : Nat → Prop} (h : Ints B W v l) (hs : St T W W') (hd : ∀ k, v.ownBlock = Option.some k → ¬ T k) : Ints B W' v l :=
  own_later h fun k _ hk hb => (hs.block k (Array.getElem?_eq_some_iff.1 hb).1 (hd k hk)).trans hb
theorem Ints.later {B : Nat} {W W' : World} {v : Value} {l : List Nat} (h : Ints B W v l) (hb : Below W.heap.size W W') : Ints B W' v l := own_later h fun _ _ _ hb' => blk_seen hb (Nat.le_refl _) hb'
theorem Ints.slice {B : Nat} {W : World} {v : Value} {l : List Nat} (h : Ints B W v l) : ∃ a c, v = .slice a l.length c := own_slice h
theorem Ints.lt {B : Nat} {W : World} {v : Value} {l : List Nat} (h : Ints B W v l) (k : Nat) (hk : v.ownBlock = Option.some k) : B ≤ k ∧ k < W.heap.size := World.ownsRow.lt h k hk
theorem Ints.some {B : Nat} {W : World} {a : Option Addr} {c : Nat} {l : List Nat} (h : Ints B W (.slice a l.length c) l) (h0 : 0 < l.length) : ∃ g, a = Option.some ⟨g, 0, none⟩ ∧ B ≤ g ∧ g < W.heap.size := own_some h h0
theorem Ints.cell {B : Nat} {W : World} {g c : Nat} {l : List Nat} (h : Ints B W (.slice (Option.some ⟨g, 0, none⟩) l.length c) l) {j k : Nat} (hj : l[j]? = Option.some k) : W.cell? ⟨g, j, none⟩ = Option.some (.int .i64 (k : Int)) := by
  have hlt := (List.getElem?_eq_some_iff.1 hj).1
  rw [World.ownsRow.cellAt h j (by omega), List.getElem?_map, hj]
  rfl
theorem Ints.lower {B B' : Nat} {W : World} {v : Value} {l : List Nat} (h : Ints B W v l) (hB : B' ≤ B) : Ints B' W v l := by
  refine ⟨h.1, ?_⟩
  rcases h.2 with q | ⟨g, cap, cur, q1, q2, q3⟩
  · exact .inl q
  · exact .inr ⟨g, cap, cur, q1, by omega, q3⟩
theorem ints_one (W : World) (k : Nat) : Ints W.heap.size (W.alloc (.cells #[.int .i64 (k : Int)] 3)) (.slice (some ⟨W.heap.size, 0, none⟩) 1 1) [k] :=
  ⟨rfl, .inr ⟨W.heap.size, 1, #[.int .i64 (k : Int)], rfl, Nat.le_refl _, heap_alloc_new W _, Nat.le_refl _, by unfold maxLen; omega, rfl, rfl⟩⟩
theorem balloc {w0 W : World} (h : Below w0.heap.size w0 W) (o : Obj) : Below w0.heap.size w0 (W.alloc o) := h.alloc h.size o
/-- append of one number. -/
theorem wpList_num {ops : Array Oper} {rest : List Oper} {o : Oper} {a : Act} {Q : Exit → Act → World → Prop} (hgd : o.guard = none) (s x : Operand)
    (ho : o.op = .call { callee := .builtin .append, args := #[s, x], argTypes := #[113, 113] }) {B : Nat} {wc : World} {v : Value} {l : List Nat} {k : Nat} (hown : Ints B wc v l) (hl : l.length ≤ 100000) (hB : B ≤ wc.heap.size)
    (hs : a.eval s = v) (hx : a.eval x = .slice (some ⟨wc.heap.size, 0, none⟩) 1 1)
    (h : ∀ v' w2, Hid (Ints B w2 v' (l ++ [k])) → Hid (St (fun x => v.ownBlock = some x) wc w2) → Hid (v'.ownBlock = v.ownBlock ∨ ∃ x, v'.ownBlock = some x ∧ wc.heap.size ≤ x) → wpList Tryz.prog ops Q rest (a.put o.dst v') w2) :
    wpList Tryz.prog ops Q (o :: rest) a (wc.alloc (.cells #[.int .i64 (k : Int)] 3)) := by
  obtain ⟨i0, hi, hz0, hz1, hz2⟩ := info_parts infoInt3
  have hb : Below wc.heap.size wc (wc.alloc (.cells #[.int .i64 (k : Int)] 3)) := bAl _ _
  have ho2 : (wc.alloc (.cells #[.int .i64 (k : Int)] 3)).ownsRow B 3 1 v l.length (l.map gI) := World.ownsRow.alloc hown _
  refine wpList_append_lies _ hgd s x 113 ho B 3 i0 (.int .i64 0) 1 8 Tryz.underlying113 hi hz0 hz1 hz2 rfl (by decide) v l.length (l.map gI) hs ho2 ⟨wc.heap.size, 0, none⟩ 1 1 [gI k] hx rfl (fun j u hu => by
    rw [add_at]
    match j, hu with
    | 0, hu => simp at hu; subst hu; exact new_cell wc _ 3
    | j + 1, hu => simp at hu) (by intro u hu; simp at hu; subst hu; rfl) (by decide) (by unfold maxLen; omega) (by omega) (by simp; omega) (wc.heap.size + 1) (by simp) ?_
  intro g' cap w2 ow hg hat hlt
  refine h _ w2 ?_ ((St.of_below hb).trans (St.of_grown (S := fun x => v.ownBlock = some x) hg fun k e => e) fun _ _ q => q) ?_
  · show World.ownsRow _ _ _ _ _ _ _
    have e : (l ++ [k]).length = l.length + 1 := by simp
    rw [e, List.map_append]
    exact ow
  · show _ ∨ _
    rcases hat with h1 | h1
    · exact .inl (by rw [h1]; rfl)
    · exact .inr ⟨g', rfl, by omega⟩
/-- The numbers below k that are in a set. -/
def lst : Nat → Nat → List Nat
  | 0, _ => []
  | k + 1, m => if m.testBit k = true then lst k m ++ [k] else lst k m
theorem lst_len (m : Nat) : ∀ k, (lst k m).length ≤ k
  | 0 => by simp [lst]
  | k + 1 => by
    have ih := lst_len m k
    rw [lst]
    split <;> simp <;> omega
theorem lst_mem (m c : Nat) : ∀ k, c ∈ lst k m ↔ c < k ∧ m.testBit c = true
  | 0 => by simp [lst]
  | k + 1 => by
    have ih := lst_mem m c k
    rw [lst]
    split
    · rename_i h
      rw [List.mem_append, ih, List.mem_singleton]
      constructor
      · rintro (⟨h1, h2⟩ | rfl)
        · exact ⟨by omega, h2⟩
        · exact ⟨by omega, h⟩
      · rintro ⟨h1, h2⟩
        by_cases e : c = k
        · exact .inr e
        · exact .inl ⟨by omega, h2⟩
    · rename_i h
      rw [ih]
      constructor
      · rintro ⟨h1, h2⟩; exact ⟨by omega, h2⟩
      · rintro ⟨h1, h2⟩
        refine ⟨?_, h2⟩
        by_cases e : c = k
        · subst e; exact absurd h2 h
        · omega
theorem lst_more (m : Nat) (n : Nat) (h : m < 2 ^ n) : ∀ k, n ≤ k → lst k m = lst n m
  | 0, hk => by rw [show n = 0 by omega]
  | k + 1, hk => by
    by_cases e : n = k + 1
    · rw [e]
    · rw [lst, if_neg (by rw [bit_out h (show n ≤ k by omega)]; decide), lst_more m n h k (by omega)]
set_option maxHeartbeats 800000 in
set_option maxRecDepth 100000 in
theorem list_any (m : Nat) (h : m < 4294967296) (w : World) :
    Calls Tryz.prog 127 #[.int .u32 (m : Int)] w fun e w' => ∃ v, e = .returned v ∧ Ints w.heap.size w' v (lst 32 m) ∧ Below w.heap.size w w' := by
  have RH := hid (fun k hk w => sethas_in m k h hk w)
  clear h
  go_enter Tryz.func127, Tryz.ntmps127
  go_wp2_with fail
  go_loopw [3, 5] (fun v i wr => ∃ k : Nat, k ≤ 32 ∧ i = .int .i64 (k : Int) ∧ Hid (Ints w.heap.size wr v (lst k m)) ∧ Hid (Below w.heap.size w wr)) (fun _ i _ => 32 - (intOf i).toNat)
  case atStart => exact ⟨0, Nat.zero_le _, rfl, World.ownsRow_nil _ _ _ _, Below.refl _ _⟩
  case round =>
    obtain ⟨k, hk, rfl, HL, HB⟩ := hrel
    have hyl := lst_len m k
    by_cases hlt : k < 32
    · have hki : (k : Int) < 32 := by omega
      have e2 := hid (show lst (k + 1) m = if m.testBit k = true then lst k m ++ [k] else lst k m from rfl)
      have HH := hid (fun w => RH.out k hlt w)
      obtain ⟨la, lc, rfl⟩ := Ints.slice HL.out
      have hw1 : w.heap.size ≤ wr.heap.size := HB.out.size
      have hul : (lst k m).length ≤ 100000 := by omega
      clear hyl
      go_wp2_with fail
      refine (HH.out _).mono ?_
      rintro e w1 ⟨rfl, rfl⟩
      generalize m.testBit k = tb at *
      cases tb with
      | true =>
        rw [if_pos rfl] at e2
        go_wp2_with (at_builtin; refine wpList_num rfl _ _ rfl HL.out hul hw1 rfl rfl ?_; intro v' w2 ho hst hat)
        have b2 : Hid (Below w.heap.size w w2) := HB.out.trans (hst.out.below (fun x hx => (World.ownsRow.lt HL.out x hx).1) hw1)
        go_roundw
        case rel => exact ⟨k + 1, by omega, by go_num, by rw [e2.out]; exact ho.out, b2.out⟩
        case measure => simp [intOf]; omega
      | false =>
        rw [if_neg (by decide)] at e2
        go_wp2_with fail
        go_roundw
        case rel => exact ⟨k + 1, by omega, by go_num, by rw [e2.out]; exact HL.out, HB.out⟩
        case measure => simp [intOf]; omega
    · have hki : ¬ ((k : Int) < 32) := by omega
      have e1 : Hid (k = 32) := by show k = _; omega
      go_wp2_with fail
      go_ret
      exact ⟨_, rfl, by rw [← e1.out]; exact HL.out, HB.out⟩
end Go.Proofs.YtagjmggiaffihaaGreatDoor.At
namespace Go.Proofs.YtagjmggiaffihaaGreatDoor.At
open Go.RowKit Go.Shelf Go.Maps
/-- The sentinels that an atlas tells. -/
def three : List Nat := [1, 2, 7]
structure Env3 (w : World) (Ad : Nat → Addr) : Prop where
  cell : ∀ k ∈ three, w.cell? ⟨gv k, 0, none⟩ = some (.iface 278 (.pointer (some (Ad k))))
  sen : ∀ k ∈ three, SenK w (Ad k)
  inj : ∀ i ∈ three, ∀ j ∈ three, Ad i = Ad j → i = j
theorem Env3.later {w w' : World} {Ad : Nat → Addr} (h : Env3 w Ad) (hb : Below w.heap.size w w') : Env3 w' Ad :=
  ⟨fun k hk => seen hb (Nat.le_refl _) (h.cell k hk), fun k hk => (h.sen k hk).below hb (h.sen k hk).lt, h.inj⟩
theorem Env3.c1 {w : World} {Ad : Nat → Addr} (h : Env3 w Ad) : w.cell? ⟨0, 0, none⟩ = some (.iface 278 (.pointer (some (Ad 1)))) := h.cell 1 (by decide)
theorem Env3.c2 {w : World} {Ad : Nat → Addr} (h : Env3 w Ad) : w.cell? ⟨5, 0, none⟩ = some (.iface 278 (.pointer (some (Ad 2)))) := h.cell 2 (by decide)
theorem Env3.c7 {w : World} {Ad : Nat → Addr} (h : Env3 w Ad) : w.cell? ⟨2, 0, none⟩ = some (.iface 278 (.pointer (some (Ad 7)))) := h.cell 7 (by decide)
theorem Env.three {w : World} {Ad : Nat → Addr} (h : Env w Ad) : Env3 w Ad := by
  have R : ∀ k ∈ YtagjmggiaffihaaGreatDoor.At.three, 1 ≤ k ∧ k ≤ 18 := by decide
  exact ⟨fun k hk => h.cell k (R k hk).1 (R k hk).2, fun k hk => h.sen k (R k hk).1 (R k hk).2, fun i hi j hj => h.inj i j (R i hi).1 (R i hi).2 (R j hj).1 (R j hj).2⟩
/-- A sentinel inside Blames. -/
def Err (Ad : Nat → Addr) (W : World) (v : Value) (k d : Nat) : Prop := ∃ ws, Chn Ad W.heap.size W d v (ws, k)
theorem Err.later {Ad : Nat → Addr} {W W' : World} {v : Value} {k d : Nat} (h : Err Ad W v k d) (hb : Below W.heap.size W W') : Err Ad W' v k d := by
  obtain ⟨ws, h⟩ := h; exact ⟨ws, h.move hb hb.size⟩
theorem Err.shape {Ad : Nat → Addr} {W : World} {v : Value} {k d : Nat} (h : Err Ad W v k d) : ∃ t q, v = .iface t q := by
  obtain ⟨ws, h⟩ := h; obtain ⟨t, q, rfl, _⟩ := h.1.shape; exact ⟨t, q, rfl⟩
theorem err_leaf (Ad : Nat → Addr) (W : World) (k : Nat) (hk : 1 ≤ k ∧ k ≤ 18) : Err Ad W (.iface 278 (.pointer (some (Ad k)))) k 0 := ⟨[], rfl, hk.1, hk.2, Nat.le_refl _⟩
theorem at_err (Ad : Nat → Addr) (s : ByteArray) (v : Value) (k d : Nat) (w : World) (h : Err Ad w v k d) :
    Calls Tryz.prog 63 #[.string s, v] w fun e w' => ∃ t q, e = .returned (.iface t q) ∧ Err Ad w' (.iface t q) k (d + 1) ∧ Below w.heap.size w w' := by
  obtain ⟨ws, h⟩ := h
  refine (at_chain Ad s d v (ws, k) w h).mono ?_
  rintro e w' ⟨v', rfl, hc, hb⟩
  obtain ⟨t, q, rfl, _⟩ := hc.1.shape
  exact ⟨t, q, rfl, ⟨_, hc⟩, hb⟩
/-- What an append onto the sets leaves. -/
structure Grew (B : Nat) (sv : Value) (n : Nat) (l : List Value) (wc : World) (sv' : Value) (w2 : World) : Prop where
  own : w2.ownsRow B 49 1 sv' n l
  st : St (fun x => sv.ownBlock = some x) wc w2
  at' : sv'.ownBlock = sv.ownBlock ∨ ∃ x, sv'.ownBlock = some x ∧ wc.heap.size ≤ x
theorem wpList_mask {ops : Array Oper} {rest : List Oper} {o : Oper} {a : Act} {Q : Exit → Act → World → Prop} (hgd : o.guard = none) (s x : Operand)
    (ho : o.op = .call { callee := .builtin .append, args := #[s, x], argTypes := #[79, 79] }) {B rb : Nat} {wc : World} {fv : Value} {f : List Nat} {k : Nat} (hown : wc.ownsRow B 49 1 fv f.length (f.map gM)) (hl : f.length ≤ 65536) (hB : B ≤ wc.heap.size)
    {cs : Array Value} (hbox : wc.heap[rb]? = some (.cells cs 187 (0, 0))) (hcs : cs[1]? = some fv) (hne : fv.ownBlock ≠ some rb)
    (hs : a.eval s = fv) (hx : a.eval x = .slice (some ⟨wc.heap.size, 0, none⟩) 1 1)
    (h : ∀ g' cap w2, Hid (Grew B fv (f.length + 1) ((f ++ [k]).map gM) wc (.slice (some ⟨g', 0, none⟩) (f.length + 1) cap) w2) → w2.cell? ⟨rb, 1, none⟩ = some fv → w2.frozen? ⟨rb, 1, none⟩ = false → wpList Tryz.prog ops Q rest (a.put o.dst (.slice (some ⟨g', 0, none⟩) (f.length + 1) cap)) w2) :
    wpList Tryz.prog ops Q (o :: rest) a (wc.alloc (.cells #[.int .u32 (k : Int)] 49)) := by
  obtain ⟨i0, hi, hz0, hz1, hz2⟩ := info_parts infoInt33
  have hb : Below wc.heap.size wc (wc.alloc (.cells #[.int .u32 (k : Int)] 49)) := bAl _ _
  have ho2 : (wc.alloc (.cells #[.int .u32 (k : Int)] 49)).ownsRow B 49 1 fv f.length (f.map gM) := hown.alloc _
  refine wpList_append_lies _ hgd s x 79 ho B 49 i0 (.int .u32 0) 1 4 Tryz.underlying79 hi hz0 hz1 hz2 rfl (by decide) fv f.length (f.map gM) hs ho2 ⟨wc.heap.size, 0, none⟩ 1 1 [gM k] hx rfl (fun j u hu => by
    rw [add_at]
    match j, hu with
    | 0, hu =>
      simp at hu
      subst hu
      exact new_cell wc _ 49
    | j + 1, hu => simp at hu) (by intro u hu; simp at hu; subst hu; rfl) (by decide) (by unfold maxLen; omega) (by omega) (by simp; omega) (wc.heap.size + 1) (by simp) ?_
  intro g' cap w2 ow hg hat hlt
  have st : St (fun x => fv.ownBlock = some x) wc w2 := (St.of_below hb).trans (St.of_grown (S := fun x => fv.ownBlock = some x) hg fun k e => e) fun _ _ q => q
  have hbx : w2.heap[rb]? = some (.cells cs 187 (0, 0)) := (st.block rb (Array.getElem?_eq_some_iff.1 hbox).1 hne).trans hbox
  refine h g' cap w2 ⟨?_, st, ?_⟩ (cell_blk hbx hcs) (blk_free hbx 1)
  · rw [List.map_append]
    exact ow
  · rcases hat with h1 | h1
    · exact .inl (by rw [h1]; rfl)
    · exact .inr ⟨g', rfl, by omega⟩
/-- What a new node leaves. -/
theorem Cl.made {B : Nat} {w1 w2 w4 : World} {rb mb : Nat} {sv sv' : Value} {s : AS} (h : Cl B w1 rb mb sv s) {m : Nat} (hm : m ∉ s.l) (hlt : m < 2 ^ s.n)
    (hg : Grew B sv (s.l.length + 1) ((s.l ++ [m]).map gM) w1 sv' w2) (hs : St (fun x => x = mb) (w2.setCell ⟨rb, 1, none⟩ sv') w4)
    (D : DataW Unit) (hD : w1.ownsMap Tryz.prog 49 (plainElem Tryz.prog 3) mb s.l.length D) (hH : Holds D s.l) (hD4 : w4.ownsMap Tryz.prog 49 (plainElem Tryz.prog 3) mb (s.l.length + 1) (D.put (.int .u32 (m : Int)) (.lit (.int .i64 (s.l.length : Int))))) :
    Cl B w4 rb mb sv' (s.put m) ∧ St (Ft rb mb sv) w1 w4 := by
  have l1 := (h.lt rb (.inl rfl)).2
  have lm := (h.lt mb (.inr (.inl rfl))).2
  have hnb : ∀ x, sv'.ownBlock = some x → x ≠ rb ∧ x ≠ mb := fun x hx => by
    rcases hg.at' with h1 | ⟨y, h1, h2⟩
    · exact h.ne_f x (h1 ▸ hx)
    · rw [h1] at hx; simp at hx; omega
  have b2 := hg.st.at h.box (fun e => (h.ne_f rb e).1 rfl)
  have b3 := heap_setCell_same w2 rb 1 _ 187 sv' b2
  have b4 := hs.at b3 h.ne_rm
  have e1 : (s.put m).l = s.l ++ [m] := by unfold AS.put add; simp only; rw [if_neg hm]
  have e2 : (s.put m).l.length = s.l.length + 1 := by rw [e1]; simp
  have h16 := pow_le h.ok.n16
  refine ⟨⟨b4, ?_, ⟨_, by rw [e2]; exact hD4, by rw [e1]; exact hH.snoc (hD.tidy keyed33) hm (by omega)⟩, h.ok.put hlt, h.low⟩, ?_⟩
  · rw [e2, e1]
    refine own_later hg.own fun x cur hx hb => ?_
    exact hs.at ((Below.heap_setCell _ _ _ _ (hnb x hx).1).trans hb) (hnb x hx).2
  · have s1 : St (Ft rb mb sv) w1 w2 := ⟨hg.st.os, hg.st.tape, hg.st.output, hg.st.size, fun x hx hn => hg.st.block x hx fun e => hn (.inr (.inr e))⟩
    exact (s1.trans (St.setCell (S := Ft rb mb sv) (p := ⟨rb, 1, none⟩) sv' (.inl rfl)) fun _ _ q => q).trans hs fun x _ q => .inr (.inl q)
set_option maxHeartbeats 800000 in
set_option maxRecDepth 100000 in
theorem node_in {B : Nat} {W : World} {rb mb : Nat} {sv : Value} {s : AS} (h : Cl B W rb mb sv s) (m : Nat) (hm : m ∈ s.l) :
    Calls Tryz.prog 106 #[.pointer (some ⟨rb, 0, none⟩), .int .u32 (m : Int)] W fun e W' => e = .returned (.int .i64 (s.l.idxOf m : Int)) ∧ Below W.heap.size W W' := by
  have c2 := h.c2
  obtain ⟨D, hD, hH⟩ := h.map
  have hl := look_two hD hH m (by have := h.ok.u16 hm; omega)
  rw [if_pos hm, decide_eq_true hm] at hl
  clear hD hH h hm
  go_enter Tryz.func106, Tryz.ntmps106
  go_wp2_with fail
  go_ret
  exact ⟨rfl, Below.refl _ _⟩
set_option maxHeartbeats 1600000 in
set_option maxRecDepth 100000 in
theorem node_out {B : Nat} {W : World} {rb mb : Nat} {sv : Value} {s : AS} (h : Cl B W rb mb sv s) (m : Nat) (hm : m ∉ s.l) (hlt : m < 2 ^ s.n) :
    Calls Tryz.prog 106 #[.pointer (some ⟨rb, 0, none⟩), .int .u32 (m : Int)] W fun e W' => e = .returned (.int .i64 (s.l.length : Int)) ∧ ∃ sv', Cl B W' rb mb sv' (s.put m) ∧ (sv'.ownBlock = sv.ownBlock ∨ ∃ x, sv'.ownBlock = some x ∧ W.heap.size ≤ x) ∧ St (Ft rb mb sv) W W' := by
  have c2 := h.c2
  have c1 := h.c1
  obtain ⟨D, hD, hH⟩ := h.map
  have h16 := pow_le h.ok.n16
  have hm32 : m < 4294967296 := by omega
  have hl := look_two hD hH m hm32
  rw [if_neg hm, decide_eq_false hm] at hl
  obtain ⟨sa, sc, rfl⟩ := own_slice h.row
  have H := hid h
  have HM := hid hm
  have HLT := hid hlt
  have HD := hid hD
  have HH := hid hH
  have H32 := hid hm32
  have hsm := h.ok.small
  have hfl : s.l.length ≤ 65536 := hsm
  have hne : (Value.slice sa s.l.length sc).ownBlock ≠ some rb := fun e => (H.out.ne_f rb e).1 rfl
  have hBw : B ≤ W.heap.size := H.out.base
  have hrl : rb < W.heap.size := World.block_lt_of_cell? W _ c1
  have hrn : ¬ (rb = W.heap.size) := by omega
  clear h hm hlt hD hH h16 hm32
  go_enter Tryz.func106, Tryz.ntmps106
  go_upto_region 5 with fail
  go_upto_region 6 with (at_builtin; refine wpList_mask rfl _ _ rfl H.out.row hfl hBw H.out.box rfl hne rfl rfl ?_; intro g' cap w3 hgr hx3 hf3)
  all_goals
    obtain ⟨w4, hw4'⟩ : ∃ w4, w4 = w3.setCell ⟨rb, 1, none⟩ (.slice (some ⟨g', 0, none⟩) (s.l.length + 1) cap) := ⟨_, rfl⟩
    rw [← hw4']
    have D3 : w3.ownsMap Tryz.prog 49 (plainElem Tryz.prog 3) mb s.l.length D := by
      have hlt := HD.out.lt
      obtain ⟨es, cl, hb, q⟩ := HD.out
      exact ⟨es, cl, (hgr.out.st.block mb hlt (fun e => (H.out.ne_f mb e).2 rfl)).trans hb, q⟩
    have D4 : w4.ownsMap Tryz.prog 49 (plainElem Tryz.prog 3) mb s.l.length D := by rw [hw4']; exact D3.setCell (fun e => H.out.ne_rm e.symm) _
    obtain ⟨w6, hmu, D6, ht6⟩ := D4.store keyed33 Tryz.underlying185 (by unfold maxLen; omega) (key_u32 m H32.out) (plainElem_int Tryz.underlying3 (I64_mid (n := (s.l.length : Int)) (by omega) (by omega)))
    have x4 := heap_setCell_same w3 rb 1 _ 187 (.slice (some ⟨g', 0, none⟩) (s.l.length + 1) cap) (hgr.out.st.at H.out.box hne)
    rw [← hw4'] at x4
    have g6 : ∀ k, k < w4.heap.size → k ≠ mb → w6.heap[k]? = w4.heap[k]? := fun k hk hne => ht6.grown.block k (by simpa using hk) (by simpa using hne)
    have k4 : w4.cell? ⟨rb, 2, none⟩ = some (.map (some mb)) := cell_blk (W := w4) x4 rfl
    have s46 : St (fun x => x = mb) w4 w6 := by
      have s' := St.of_grown (S := fun x => x = mb) ht6.grown fun k e => by simpa using e.symm
      exact ⟨s'.os, s'.tape, s'.output, s'.size, s'.block⟩
    have FN := H.out.made HM.out HLT.out hgr.out (w4 := w6) (by rw [← hw4']; exact s46) D HD.out HH.out D6
    have HFN := hid FN
    have HAT := hid hgr.out.at'
    clear FN s46 g6 x4 D6 D4 D3 ht6 hw4' hgr hx3 hf3 c1 c2 hl
    go_wp2_with fail
    go_ret
    refine ⟨rfl, _, HFN.out.1, ?_, HFN.out.2⟩
    rcases HAT.out with h | ⟨x, h, h'⟩
    · exact .inl h
    · exact .inr ⟨x, h, h'⟩
end Go.Proofs.YtagjmggiaffihaaGreatDoor.At
namespace Go.Proofs.YtagjmggiaffihaaGreatDoor.At
open Go.RowKit Go.Shelf Go.Maps
section
variable {B : Nat} {W W' : World} {rb : Nat} {s : AS} {S : Nat → Prop}
theorem atl_node (h : Atl B W rb s S) (m : Nat) (hm : m < 2 ^ s.n) :
    Calls Tryz.prog 106 #[.pointer (some ⟨rb, 0, none⟩), .int .u32 (m : Int)] W fun e W' => e = .returned (.int .i64 (s.l.idxOf m : Int)) ∧ Goes B rb (s.put m) S W W' := by
  obtain ⟨mb, sv, h1, h2⟩ := h
  by_cases hl : m ∈ s.l
  · refine (node_in h1 m hl).mono ?_
    rintro e w ⟨rfl, hb⟩
    have e1 : s.put m = s := by unfold AS.put add; rw [if_pos hl]
    refine ⟨rfl, ?_⟩
    rw [e1]
    exact Goes.stay ⟨mb, sv, h1, h2⟩ hb
  · refine (node_out h1 m hl hm).mono ?_
    rintro e w ⟨rfl, sv', h3, h4, h5⟩
    rw [List.idxOf_eq_length hl]
    refine ⟨rfl, _, ⟨mb, sv', h3, fun _ => Iff.rfl⟩, ⟨h5.os, h5.tape, h5.output, h5.size, fun k hk hn => h5.block k hk fun q => hn ((h2 k).2 q)⟩, fun x hx => ?_⟩
    rcases hx with hx | hx | hx
    · exact .inl ((h2 x).2 (.inl hx))
    · exact .inl ((h2 x).2 (.inr (.inl hx)))
    · rcases h4 with h4 | ⟨y, h4, h6⟩
      · exact .inl ((h2 x).2 (.inr (.inr (h4 ▸ hx))))
      · rw [h4] at hx; simp at hx; exact .inr (by omega)
end
theorem pow_sub (n : Nat) (h : n ≤ 16) : ((2 : Int) ^ n - 1) % 4294967296 = ((2 ^ n - 1 : Nat) : Int) := by
  have hp := pow_le h
  have hp0 : 0 < 2 ^ n := Nat.two_pow_pos n
  have e : (2 : Int) ^ n = ((2 ^ n : Nat) : Int) := (Int.natCast_pow 2 n).symm
  rw [e]
  generalize 2 ^ n = p at *
  omega
set_option maxHeartbeats 800000 in
set_option maxRecDepth 100000 in
theorem new_bad (Ad : Nat → Addr) (W : World) (hE : Env3 W Ad) (c : Int) (hc : c < 0 ∨ 16 < c) :
    Calls Tryz.prog 53 #[.int .i64 c] W fun e W' => ∃ t q, e = .returned (.tuple #[.pointer none, .iface t q]) ∧ Err Ad W' (.iface t q) 1 1 ∧ Below W.heap.size W W' := by
  have e1 := hE.c1
  have AC := hid (fun s => at_err Ad s _ 1 0 W (err_leaf Ad W 1 (by decide)))
  clear hE
  rcases hc with hc | hc
  · go_enter Tryz.func53, Tryz.ntmps53
    go_wp2_with fail
    refine (AC.out _).mono ?_
    rintro e w1 ⟨t, q, rfl, hv, hb⟩
    have HV := hid hv
    have HB := hid hb
    clear hv hb e1 AC
    go_wp2_with fail
    go_ret2
    exact ⟨t, q, rfl, HV.out, HB.out⟩
  · have h0 : ¬ (c < 0) := by omega
    go_enter Tryz.func53, Tryz.ntmps53
    go_wp2_with fail
    refine (AC.out _).mono ?_
    rintro e w1 ⟨t, q, rfl, hv, hb⟩
    have HV := hid hv
    have HB := hid hb
    clear hv hb e1 AC
    go_wp2_with fail
    go_ret2
    exact ⟨t, q, rfl, HV.out, HB.out⟩
set_option maxHeartbeats 800000 in
set_option maxRecDepth 100000 in
theorem new_ok (W : World) (n : Nat) (hn : n ≤ 16) :
    Calls Tryz.prog 53 #[.int .i64 (n : Int)] W fun e W' => ∃ rb S, e = .returned (.tuple #[.pointer (some ⟨rb, 0, none⟩), .nilIface]) ∧ Atl W.heap.size W' rb ⟨n, [0]⟩ S ∧ Below W.heap.size W W' := by
  have h2 : ¬ ((n : Int) < 0) := by omega
  have h3 : ¬ (16 < (n : Int)) := by omega
  have h4 : (n : Int) ≤ 32 := by omega
  have PS := hid (pow_sub n hn)
  have hmm := run_makeMap (P := Tryz.prog) 185
  have K : Hid (Atl W.heap.size ((W.alloc (.map #[] 0)).alloc (.cells #[.int .u32 ((2 ^ n - 1 : Nat) : Int), .slice none 0 0, .map (some W.heap.size)] 187)) (W.heap.size + 1) ⟨n, []⟩ (Ft (W.heap.size + 1) W.heap.size (.slice none 0 0)) ∧ Below W.heap.size W ((W.alloc (.map #[] 0)).alloc (.cells #[.int .u32 ((2 ^ n - 1 : Nat) : Int), .slice none 0 0, .map (some W.heap.size)] 187))) := by
    refine ⟨⟨W.heap.size, .slice none 0 0, ⟨?_, ?_, ?_, ⟨hn, by simp, by simp⟩, by omega⟩, fun _ => Iff.rfl⟩, (bAl W _).alloc (by simp) _⟩
    · have := heap_alloc_new (W.alloc (.map #[] 0)) (.cells #[.int .u32 ((2 ^ n - 1 : Nat) : Int), .slice none 0 0, .map (some W.heap.size)] 187)
      simpa using this
    · exact World.ownsRow_nil _ _ _ _
    · have := World.ownsMap_made W Tryz.prog 49 (plainElem (H := Unit) Tryz.prog 3)
      exact ⟨_, this.alloc _, fun i _ => ⟨rfl, rfl⟩, rfl⟩
  have hp0 : 0 < 2 ^ n := Nat.two_pow_pos n
  have NO : Hid (Calls Tryz.prog 106 #[.pointer (some ⟨W.heap.size + 1, 0, none⟩), .int .u32 0] ((W.alloc (.map #[] 0)).alloc (.cells #[.int .u32 ((2 ^ n - 1 : Nat) : Int), .slice none 0 0, .map (some W.heap.size)] 187)) fun e W' => e = .returned (.int .i64 0) ∧ Goes W.heap.size (W.heap.size + 1) ⟨n, [0]⟩ (Ft (W.heap.size + 1) W.heap.size (.slice none 0 0)) ((W.alloc (.map #[] 0)).alloc (.cells #[.int .u32 ((2 ^ n - 1 : Nat) : Int), .slice none 0 0, .map (some W.heap.size)] 187)) W') := atl_node K.out.1 0 hp0
  have BK := hid K.out.2
  clear K hn hp0
  go_enter Tryz.func53, Tryz.ntmps53
  go_wp2_with fail
  rw [PS.out]
  refine NO.out.mono ?_
  rintro e w1 ⟨rfl, S1, a1, s1, f1⟩
  have A1 := hid a1
  have B1 : Hid (Below W.heap.size W w1) := BK.out.trans (s1.below (fun k hk => by rcases hk with rfl | rfl | hk; omega; omega; cases hk) BK.out.size)
  clear NO a1 s1 f1 hmm
  go_wp2_with fail
  go_ret2
  exact ⟨_, S1, rfl, A1.out, B1.out⟩
set_option maxHeartbeats 800000 in
set_option maxRecDepth 100000 in
theorem at_nilp (Ad : Nat → Addr) (W : World) (hE : Env3 W Ad) (m : Int) :
    Calls Tryz.prog 114 #[.pointer none, .int .u32 m] W fun e W' => ∃ t q, e = .returned (.tuple #[.int .i64 0, .iface t q]) ∧ Err Ad W' (.iface t q) 2 1 ∧ Below W.heap.size W W' := by
  have e1 := hE.c2
  have AC := hid (fun s => at_err Ad s _ 2 0 W (err_leaf Ad W 2 (by decide)))
  clear hE
  go_enter Tryz.func114, Tryz.ntmps114
  go_wp2_with fail
  refine (AC.out _).mono ?_
  rintro e w1 ⟨t, q, rfl, hv, hb⟩
  have HV := hid hv
  have HB := hid hb
  clear hv hb e1 AC
  go_wp2_with fail
  go_ret2
  exact ⟨t, q, rfl, HV.out, HB.out⟩
section
variable {B : Nat} {W W' : World} {rb : Nat} {s : AS} {S : Nat → Prop}
theorem Atl.c0 (h : Atl B W rb s S) : W.cell? ⟨rb, 0, none⟩ = some (.int .u32 ((2 ^ s.n - 1 : Nat) : Int)) := by obtain ⟨mb, sv, h1, h2⟩ := h; exact h1.c0
theorem Atl.c1 (h : Atl B W rb s S) : ∃ a c, W.cell? ⟨rb, 1, none⟩ = some (.slice a s.l.length c) := by
  obtain ⟨mb, sv, h1, h2⟩ := h
  obtain ⟨a, c, rfl⟩ := own_slice h1.row
  exact ⟨a, c, h1.c1⟩
theorem Atl.cell (h : Atl B W rb s S) {i m : Nat} (hi : s.l[i]? = some m) : ∃ g cap, W.cell? ⟨rb, 1, none⟩ = some (.slice (some ⟨g, 0, none⟩) s.l.length cap) ∧ W.cell? ⟨g, i, none⟩ = some (.int .u32 (m : Int)) := by
  obtain ⟨mb, sv, h1, h2⟩ := h
  obtain ⟨g, cap, rfl, hc⟩ := h1.cell hi
  exact ⟨g, cap, h1.c1, hc⟩
theorem mask_lt (h : Atl B W rb s S) : 2 ^ s.n - 1 < 4294967296 := by have := pow_le h.ok.n16; omega
set_option maxHeartbeats 800000 in
set_option maxRecDepth 100000 in
theorem at_bad (Ad : Nat → Addr) (h : Atl B W rb s S) (hE : Env3 W Ad) (m : Nat) (hm32 : m < 4294967296) (hm : ¬ m < 2 ^ s.n) :
    Calls Tryz.prog 114 #[.pointer (some ⟨rb, 0, none⟩), .int .u32 (m : Int)] W fun e W' => ∃ t q, e = .returned (.tuple #[.int .i64 0, .iface t q]) ∧ Err Ad W' (.iface t q) 1 1 ∧ Below W.heap.size W W' := by
  have e1 := hE.c1
  have c0 := h.c0
  have WN := hid (within_nat m (2 ^ s.n - 1) hm32 (mask_lt h) W)
  rw [decide_eq_false (fun q => hm ((within_iff hm32 h.ok.n16).1 q))] at WN
  have AC := hid (fun s => at_err Ad s _ 1 0 W (err_leaf Ad W 1 (by decide)))
  clear hE h hm hm32
  go_enter Tryz.func114, Tryz.ntmps114
  go_wp2_with fail
  refine WN.out.mono ?_
  rintro e w1 ⟨rfl, rfl⟩
  clear WN
  go_wp2_with fail
  refine (AC.out _).mono ?_
  rintro e w1 ⟨t, q, rfl, hv, hb⟩
  have HV := hid hv
  have HB := hid hb
  clear hv hb e1 AC
  go_wp2_with fail
  go_ret2
  exact ⟨t, q, rfl, HV.out, HB.out⟩
set_option maxHeartbeats 800000 in
set_option maxRecDepth 100000 in
theorem at_ok (h : Atl B W rb s S) (m : Nat) (hm : m < 2 ^ s.n) :
    Calls Tryz.prog 114 #[.pointer (some ⟨rb, 0, none⟩), .int .u32 (m : Int)] W fun e W' => e = .returned (.tuple #[.int .i64 (s.l.idxOf m : Int), .nilIface]) ∧ Goes B rb (s.put m) S W W' := by
  have c0 := h.c0
  have hm32 : m < 4294967296 := by have := pow_le h.ok.n16; omega
  have WN := hid (within_nat m (2 ^ s.n - 1) hm32 (mask_lt h) W)
  rw [decide_eq_true ((within_iff hm32 h.ok.n16).2 hm)] at WN
  have NO := hid (atl_node h m hm)
  clear h hm hm32
  go_enter Tryz.func114, Tryz.ntmps114
  go_wp2_with fail
  refine WN.out.mono ?_
  rintro e w1 ⟨rfl, rfl⟩
  clear WN
  go_wp2_with fail
  refine NO.out.mono ?_
  rintro e w2 ⟨rfl, hg⟩
  have HG := hid hg
  clear NO hg
  go_wp2_with fail
  go_ret2
  exact ⟨rfl, HG.out⟩
end
end Go.Proofs.YtagjmggiaffihaaGreatDoor.At
