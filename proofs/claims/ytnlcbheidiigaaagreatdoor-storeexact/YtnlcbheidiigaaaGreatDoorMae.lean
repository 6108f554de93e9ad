/- A part of StoreExact. -/
import Derived.Shelf.Strings.Builder1
import Derived.Shelf.Strings.Builder2
import Derived.Shelf.Strings.OnBuilder
import Derived.Shelf.Strconv.Itoa0
import Derived.Shelf.Strconv.Itoa1
import Derived.Shelf.Strconv.Itoa3
import Derived.Test.YtnlcbheidiigaaaGreatDoorProg
import Derived.OneCell
import Derived.Test.YtnlcbheidiigaaaGreatDoorMad
namespace Go.Proofs.YtnlcbheidiigaaaGreatDoor.Rs
open Go.RowKit Go.Shelf Go.Maps
open At (cell_blk blk_seen blk_free)
set_option maxHeartbeats 1600000 in
set_option maxRecDepth 100000 in
theorem get_none {B : Nat} {W : World} {ub : Nat} {x : SV} {s : SD} (h : Sb B W ub x s) (k : Nat) (g comp : Int) (ha : s.r.aliveB (k : Int) g = true) (hx : (s.at k).length ≤ ix (s.at k) comp) :
  Calls Tryz.prog 39 #[.pointer (some ⟨ub, 0, none⟩), .agg #[.int .i64 (k : Int), .int .i64 g], .int .i64 comp] W fun e W' => e = .returned (.tuple #[Prt.zero.val, .int .i64 7]) ∧ Below W.heap.size W W' := by
 obtain ⟨b2, k1, k2⟩ := two_blk W #[.int .i64 (k : Int), .int .i64 g] Prt.zero.arr 43 47
 obtain ⟨W2, hW2⟩ : ∃ W2, W2 = (W.alloc (.cells #[.int .i64 (k : Int), .int .i64 g] 43)).alloc (.cells Prt.zero.arr 47) := ⟨_, rfl⟩
 rw [← hW2] at b2 k1 k2
 have HW2 := hid hW2
 unfold Prt.arr Prt.zero at HW2
 clear hW2
 have h2 := h.later b2
 have AL := hid (Ro.ralive_any (h2.later (Below.refl _ W2).drew).roll (k : Int) g)
 rw [ha] at AL
 have c2 := h2.c2
 have e0 : W2.cell? ⟨W.heap.size, 0, none⟩ = some (.int .i64 (k : Int)) := cell_blk k1 (j := 0) rfl
 have e1 : W2.cell? ⟨W.heap.size, 1, none⟩ = some (.int .i64 g) := cell_blk k1 (j := 1) rfl
 have B2 := hid b2
 obtain ⟨k', hk', hkn⟩ := alive_lt ha
 obtain rfl : k = k' := by omega
 have hk64 : k < 64 := by have := h.roll.small; omega
 have hki : (k : Int) < 64 := by omega
 have H2 := hid h2
 have K1 := hid k1
 have K2 := hid k2
 have HX := hid hx
 have hw16 := h.okw.1
 clear h ha h2 k1 k2 b2 hk' hkn hx
 go_enter Tryz.func39, Tryz.ntmps39
 go_wp2_with fail
 rw [← HW2.out]
 go_region_held3 (fun W' => W'.cell? ⟨ub, 2, none⟩ = some (.pointer (some ⟨x.rb, 0, none⟩)) ∧ W'.cell? ⟨W.heap.size, 0, none⟩ = some (.int .i64 (k : Int)) ∧ W'.cell? ⟨W.heap.size, 1, none⟩ = some (.int .i64 g)) (go_keep) (first | (go_at_call 41; refine AL.out.mono ?_; rintro e w3 ⟨rfl, hb3⟩; have d2 := At.seen (W := W2.drew) hb3 (Nat.le_refl _) c2; have f0 := At.seen (W := W2.drew) hb3 (Nat.le_refl _) e0; have f1 := At.seen (W := W2.drew) hb3 (Nat.le_refl _) e1))
 have B23 := hid ((Below.refl _ W2).drew.trans hb3)
 have k3 := blk_seen B23.out (Nat.le_refl _) K2.out
 have B3 := hid (B2.out.trans (B23.out.mono B2.out.size))
 have H3 := hid (H2.out.later B23.out)
 obtain ⟨v, hv, cv, hp, hok⟩ := H3.out.place hk64
 have hle := okL_few hok hw16
 have AT := hid (at_any w3.drew v (s.at k) comp (hp.row.later (Below.refl _ w3).drew) (by omega))
 have EI : Hid (ixI (s.at k) comp = -1) := by show _ = _; unfold ixI; rw [if_neg (by have := HX.out; omega)]
 have fr := fun j => blk_free k3 j
 rw [EI.out] at AT
 clear hp hok hv d2 f1 hb3 AL c2 e0 e1 B2 K1 K2 B23 H2 EI HX
 go_wp2_with fail
 go_region_held3 (fun W' => W'.cell? ⟨W.heap.size, 0, none⟩ = some (.int .i64 (k : Int)) ∧ W'.cell? ⟨ub, 3 + k, none⟩ = some v) (go_keep) (first | (go_at_call 68; refine AT.out.mono ?_; rintro e w4 ⟨rfl, rfl⟩))
 obtain ⟨p0, p1, p2, p3, p4, p5⟩ := six_blk k3
 simp only [Nat.zero_add] at p0 p1 p2 p3 p4 p5
 go_wp2_with fail
 obtain ⟨w4, hw4⟩ : ∃ w4, w4 = six w3 (W.heap.size + 1) Prt.zero := ⟨_, rfl⟩
 obtain ⟨k4, b4⟩ := six_set k3 (p := Prt.zero)
 rw [← hw4] at k4 b4
 unfold six Prt.zero at hw4
 dsimp only at hw4
 rw [← hw4]
 clear p0 p1 p2 p3 p4 p5
 obtain ⟨p0, p1, p2, p3, p4, p5⟩ := six_blk k4
 simp only [Nat.zero_add] at p0 p1 p2 p3 p4 p5
 refine bodyPost_ret (v := .tuple #[Prt.zero.val, .int .i64 7]) (by simp [results, Tryz.results39, go_sem, p0, p1, p2, p3, p4, p5, Prt.val]) rfl ⟨rfl, (B3.out.trans (b4 _ (by omega))).drew⟩
set_option maxHeartbeats 1600000 in
set_option maxRecDepth 100000 in
theorem get_some {B : Nat} {W : World} {ub : Nat} {x : SV} {s : SD} (h : Sb B W ub x s) (k : Nat) (g comp : Int) (ha : s.r.aliveB (k : Int) g = true) (q : Prt) (hx : (s.at k)[ix (s.at k) comp]? = some q) :
  Calls Tryz.prog 39 #[.pointer (some ⟨ub, 0, none⟩), .agg #[.int .i64 (k : Int), .int .i64 g], .int .i64 comp] W fun e W' => e = .returned (.tuple #[q.val, .int .i64 0]) ∧ Below W.heap.size W W' := by
 obtain ⟨b2, k1, k2⟩ := two_blk W #[.int .i64 (k : Int), .int .i64 g] Prt.zero.arr 43 47
 obtain ⟨W2, hW2⟩ : ∃ W2, W2 = (W.alloc (.cells #[.int .i64 (k : Int), .int .i64 g] 43)).alloc (.cells Prt.zero.arr 47) := ⟨_, rfl⟩
 rw [← hW2] at b2 k1 k2
 have HW2 := hid hW2
 unfold Prt.arr Prt.zero at HW2
 clear hW2
 have h2 := h.later b2
 have AL := hid (Ro.ralive_any (h2.later (Below.refl _ W2).drew).roll (k : Int) g)
 rw [ha] at AL
 have c2 := h2.c2
 have e0 : W2.cell? ⟨W.heap.size, 0, none⟩ = some (.int .i64 (k : Int)) := cell_blk k1 (j := 0) rfl
 have e1 : W2.cell? ⟨W.heap.size, 1, none⟩ = some (.int .i64 g) := cell_blk k1 (j := 1) rfl
 have B2 := hid b2
 obtain ⟨k', hk', hkn⟩ := alive_lt ha
 obtain rfl : k = k' := by omega
 have hk64 : k < 64 := by have := h.roll.small; omega
 have hki : (k : Int) < 64 := by omega
 have H2 := hid h2
 have K1 := hid k1
 have K2 := hid k2
 have HX := hid hx
 have hw16 := h.okw.1
 have VL : Hid (∀ v, x.pv[k]? = some v → ∀ b, v.ownBlock = some b → b < W.heap.size) := fun v hv b hb => by
  obtain ⟨v', hv', -, hp', -⟩ := h.place hk64
  obtain rfl : v' = v := by rw [hv] at hv'; exact (Option.some.inj hv').symm
  exact (hp'.lt b hb).2
 have hul := (h.lt ub (.inl rfl)).2
 clear h ha h2 k1 k2 b2 hk' hkn hx
 go_enter Tryz.func39, Tryz.ntmps39
 go_wp2_with fail
 rw [← HW2.out]
 go_region_held3 (fun W' => W'.cell? ⟨ub, 2, none⟩ = some (.pointer (some ⟨x.rb, 0, none⟩)) ∧ W'.cell? ⟨W.heap.size, 0, none⟩ = some (.int .i64 (k : Int)) ∧ W'.cell? ⟨W.heap.size, 1, none⟩ = some (.int .i64 g)) (go_keep) (first | (go_at_call 41; refine AL.out.mono ?_; rintro e w3 ⟨rfl, hb3⟩; have d2 := At.seen (W := W2.drew) hb3 (Nat.le_refl _) c2; have f0 := At.seen (W := W2.drew) hb3 (Nat.le_refl _) e0; have f1 := At.seen (W := W2.drew) hb3 (Nat.le_refl _) e1))
 have B23 := hid ((Below.refl _ W2).drew.trans hb3)
 have k3 := blk_seen B23.out (Nat.le_refl _) K2.out
 have B3 := hid (B2.out.trans (B23.out.mono B2.out.size))
 have H3 := hid (H2.out.later B23.out)
 obtain ⟨v, hv, cv, hp, hok⟩ := H3.out.place hk64
 have hle := okL_few hok hw16
 have AT := hid (at_any w3.drew v (s.at k) comp (hp.row.later (Below.refl _ w3).drew) (by omega))
 have hjl := (List.getElem?_eq_some_iff.1 HX.out).1
 have EI : Hid (ixI (s.at k) comp = (ix (s.at k) comp : Int)) := by show _ = _; unfold ixI; rw [if_pos hjl]
 obtain ⟨va, vc, rfl⟩ := hp.slice
 obtain ⟨vg, vo, rfl, six1⟩ := hp.row.at HX.out
 obtain ⟨d0, d1, d2', d3, d4, d5⟩ := six1
 have hvl := VL.out _ hv vg rfl
 have u1 : ¬ (ub = W.heap.size + 1) := by omega
 have u2 : ¬ (W.heap.size + 1 = ub) := by omega
 have u3 : ¬ (vg = W.heap.size + 1) := by omega
 have u4 : ¬ (W.heap.size + 1 = vg) := by omega
 have fr := fun j => blk_free k3 j
 rw [EI.out] at AT
 generalize ix (s.at k) comp = j at *
 generalize (s.at k).length = n at *
 have hji : (j : Int) < (n : Int) := by omega
 have hj0 : ¬ ((j : Int) < 0) := by omega
 have hn16 : (n : Int) ≤ 16 := by omega
 clear hp hok hv d2 f1 hb3 AL c2 e0 e1 B2 K1 K2 B23 H2 EI HX
 go_wp2_with fail
 go_region_held3 (fun W' => W'.cell? ⟨W.heap.size, 0, none⟩ = some (.int .i64 (k : Int)) ∧ W'.cell? ⟨ub, 3 + k, none⟩ = some (.slice (some ⟨vg, vo, none⟩) n vc)) (go_keep) (first | (go_at_call 68; refine AT.out.mono ?_; rintro e w4 ⟨rfl, rfl⟩))
 obtain ⟨p0, p1, p2, p3, p4, p5⟩ := six_blk k3
 simp only [Nat.zero_add] at p0 p1 p2 p3 p4 p5
 go_wp2_with fail
 go_region_held3 (fun W' => W'.cell? ⟨W.heap.size, 0, none⟩ = some (.int .i64 (k : Int)) ∧ W'.cell? ⟨ub, 3 + k, none⟩ = some (.slice (some ⟨vg, vo, none⟩) n vc) ∧ W'.cell? ⟨vg, vo + j * 6, none⟩ = some (.int .i64 q.c) ∧ W'.cell? ⟨vg, vo + j * 6 + 1, none⟩ = some (.int .i64 q.v0) ∧ W'.cell? ⟨vg, vo + j * 6 + 2, none⟩ = some (.int .i64 q.v1) ∧ W'.cell? ⟨vg, vo + j * 6 + 3, none⟩ = some (.int .i64 q.v2) ∧ W'.cell? ⟨vg, vo + j * 6 + 4, none⟩ = some (.int .i64 q.v3) ∧ W'.cell? ⟨vg, vo + j * 6 + 5, none⟩ = some (.int .i64 q.t)) (go_keep) (fail)
 go_wp2_with fail
 obtain ⟨w4, hw4⟩ : ∃ w4, w4 = six w3 (W.heap.size + 1) q := ⟨_, rfl⟩
 obtain ⟨k4, b4⟩ := six_set k3 (p := q)
 rw [← hw4] at k4 b4
 unfold six at hw4
 rw [← hw4]
 clear p0 p1 p2 p3 p4 p5
 obtain ⟨p0, p1, p2, p3, p4, p5⟩ := six_blk k4
 simp only [Nat.zero_add] at p0 p1 p2 p3 p4 p5
 refine bodyPost_ret (v := .tuple #[q.val, .int .i64 0]) (by simp [results, Tryz.results39, go_sem, p0, p1, p2, p3, p4, p5, Prt.val]) rfl ⟨rfl, (B3.out.trans (b4 _ (by omega))).drew.drew⟩
theorem get_any {B : Nat} {W : World} {ub : Nat} {x : SV} {s : SD} (h : Sb B W ub x s) (i g comp : Int) :
  Calls Tryz.prog 39 #[.pointer (some ⟨ub, 0, none⟩), .agg #[.int .i64 i, .int .i64 g], .int .i64 comp] W fun e W' => e = .returned (.tuple #[(s.get i g comp).1.val, .int .i64 (s.get i g comp).2]) ∧ Below W.heap.size W W' := by
 by_cases ha : s.r.aliveB i g = true
 ·obtain ⟨k, rfl, -⟩ := alive_lt ha
  cases hx : (s.at k)[ix (s.at k) comp]? with
  | none =>
   have e : s.get (k : Int) g comp = (Prt.zero, 7) := by unfold SD.get; rw [if_pos ha, Int.toNat_natCast, hx]
   rw [e]
   exact get_none h k g comp ha (List.getElem?_eq_none_iff.1 hx)
  | some q =>
   have e : s.get (k : Int) g comp = (q, 0) := by unfold SD.get; rw [if_pos ha, Int.toNat_natCast, hx]
   rw [e]
   exact get_some h k g comp ha q hx
 ·have e : s.get i g comp = (Prt.zero, 17) := by unfold SD.get; rw [if_neg ha]
  rw [e]
  exact get_dead h i g comp (by simpa using ha)
def insr (p : Prt) : List Prt → List Prt
 | [] => [p]
 | x :: l => if p.c < x.c then p :: x :: l else x :: insr p l
theorem insP_rec (l : List Prt) (p : Prt) : insP l p = insr p l := by
 have A : ∀ (l acc : List Prt), l.foldl (fun s x => if !s.1 && decide (p.c < x.c) then (true, s.2 ++ [p] ++ [x]) else (s.1, s.2 ++ [x])) (true, acc) = ((true, acc ++ l) : Bool × List Prt) := by
  intro l
  induction l with
  | nil => intro acc; simp
  | cons x l ih =>
   intro acc
   rw [List.foldl_cons]
   show List.foldl _ (true, acc ++ [x]) l = _
   rw [ih]
   simp
 have C : ∀ (l acc : List Prt) (r : Bool × List Prt), l.foldl (fun s x => if !s.1 && decide (p.c < x.c) then (true, s.2 ++ [p] ++ [x]) else (s.1, s.2 ++ [x])) (false, acc) = r → (if r.1 then r.2 else r.2 ++ [p]) = acc ++ insr p l := by
  intro l
  induction l with
  | nil => intro acc r h; simp at h; subst h; simp [insr]
  | cons x l ih =>
   intro acc r h
   rw [List.foldl_cons] at h
   by_cases hc : p.c < x.c
   ·simp only [hc, Bool.not_false, decide_true, Bool.and_self, if_true, A] at h
    subst h
    simp [insr, hc]
   ·simp only [hc, decide_false, Bool.and_false, Bool.false_eq_true, if_false] at h
    rw [ih _ r h]
    simp [insr, hc]
 have := C l [] (wst p l) rfl
 simpa [insP] using this
theorem mem_insr {p y : Prt} : ∀ {l : List Prt}, y ∈ insr p l ↔ y = p ∨ y ∈ l := by
 intro l
 induction l with
 | nil => simp [insr]
 | cons x l ih =>
  unfold insr
  split
  ·simp
  ·rw [List.mem_cons, ih, List.mem_cons]
   constructor
   ·rintro (h | h | h)
    ·exact .inr (.inl h)
    ·exact .inl h
    ·exact .inr (.inr h)
   ·rintro (h | h | h)
    ·exact .inr (.inl h)
    ·exact .inl h
    ·exact .inr (.inr h)
theorem insr_sorted {p : Prt} : ∀ {l : List Prt}, l.Pairwise (fun x y => x.c < y.c) → (∀ x ∈ l, x.c ≠ p.c) → (insr p l).Pairwise (fun x y => x.c < y.c) := by
 intro l
 induction l with
 | nil => intro _ _; simp [insr]
 | cons x l ih =>
  intro h hn
  have h' := List.pairwise_cons.1 h
  unfold insr
  split
  ·rename_i hc
   refine List.pairwise_cons.2 ⟨fun y hy => ?_, h⟩
   rcases List.mem_cons.1 hy with rfl | hy
   ·exact hc
   ·have := h'.1 y hy; omega
  ·rename_i hc
   refine List.pairwise_cons.2 ⟨fun y hy => ?_, ih h'.2 fun z hz => hn z (List.mem_cons_of_mem _ hz)⟩
   rcases mem_insr.1 hy with rfl | hy
   ·have := hn x List.mem_cons_self; omega
   ·exact h'.1 y hy
theorem ix_absent {l : List Prt} {comp : Int} (h : l.length ≤ ix l comp) : ∀ x ∈ l, x.c ≠ comp := by
 intro x hx e
 have : ix l comp < l.length := List.findIdx_lt_length_of_exists ⟨x, hx, by simp [e]⟩
 omega
theorem fit_range {ws : List Nat} {p : Prt} (h : fitP ws p = true) : 0 ≤ p.c ∧ p.c < (ws.length : Int) := by
 by_cases q : p.c < 0 ∨ (ws.length : Int) ≤ p.c
 ·rw [fit_out q] at h; simp at h
 ·omega
theorem okL.ins {ws : List Nat} {l : List Prt} {p : Prt} (h : okL ws l) (hf : fitP ws p = true) (hx : ∀ x ∈ l, x.c ≠ p.c) : okL ws (insP l p) := by
 rw [insP_rec]
 refine ⟨insr_sorted h.1 hx, fun y hy => ?_⟩
 rcases mem_insr.1 hy with rfl | hy
 ·exact fit_range hf
 ·exact h.2 y hy
def remP (l : List Prt) (comp : Int) : List Prt := l.filter fun x => !(x.c == comp)
theorem okL.rem {ws : List Nat} {l : List Prt} (h : okL ws l) (comp : Int) : okL ws (remP l comp) := ⟨h.1.filter _, fun y hy => h.2 y (List.mem_filter.1 hy).1⟩
theorem remP_no (l : List Prt) (comp : Int) : ∀ x ∈ remP l comp, x.c ≠ comp := fun x hx e => by
 have := (List.mem_filter.1 hx).2
 simp [e] at this
theorem insP_len (l : List Prt) (p : Prt) : (insP l p).length = l.length + 1 := by
 rw [insP_rec]
 induction l with
 | nil => rfl
 | cons x l ih => unfold insr; split <;> simp [ih]
def SD.rowed (s : SD) (k : Nat) (l : List Prt) : SD := { s with p := s.p.set k l }
def SD.ins (s : SD) (i g : Int) (p : Prt) : Int × SD :=
 if s.r.aliveB i g then if fitP s.ws p then if ix (s.at i.toNat) p.c < (s.at i.toNat).length then (9, s) else (0, (s.rowed i.toNat (insP (s.at i.toNat) p)).noted (mskP (insP (s.at i.toNat) p))) else (1, s) else (17, s)
structure Two (B : Nat) (W : World) (ub : Nat) (x : SV) (s : SD) (i g : Int) (p : Prt) (w : World) : Prop where
 bel : Below W.heap.size W w
 sb : Sb B w ub x s
 k1 : w.heap[W.heap.size]? = some (.cells #[.int .i64 i, .int .i64 g] 43 (0, 0))
 k2 : w.heap[W.heap.size + 1]? = some (.cells p.arr 47 (0, 0))
section
variable {B : Nat} {W w w' : World} {ub : Nat} {x : SV} {s : SD} {i g : Int} {p : Prt}
theorem Two.later (h : Two B W ub x s i g p w) (hb : Below w.heap.size w w') : Two B W ub x s i g p w' :=
 ⟨h.bel.trans (hb.mono h.bel.size), h.sb.later hb, blk_seen hb (Nat.le_refl _) h.k1, blk_seen hb (Nat.le_refl _) h.k2⟩
theorem Two.drew (h : Two B W ub x s i g p w) : Two B W ub x s i g p w.drew := h.later (Below.refl _ w).drew
theorem Two.cells (h : Two B W ub x s i g p w) : w.cell? ⟨ub, 0, none⟩ = some x.va ∧ w.cell? ⟨ub, 1, none⟩ = some x.vb ∧ w.cell? ⟨ub, 2, none⟩ = some (.pointer (some ⟨x.rb, 0, none⟩)) ∧ w.cell? ⟨W.heap.size, 0, none⟩ = some (.int .i64 i) ∧ w.cell? ⟨W.heap.size, 1, none⟩ = some (.int .i64 g) ∧
 w.cell? ⟨W.heap.size + 1, 0, none⟩ = some (.int .i64 p.c) ∧ w.cell? ⟨W.heap.size + 1, 1, none⟩ = some (.int .i64 p.v0) ∧ w.cell? ⟨W.heap.size + 1, 2, none⟩ = some (.int .i64 p.v1) ∧ w.cell? ⟨W.heap.size + 1, 3, none⟩ = some (.int .i64 p.v2) ∧ w.cell? ⟨W.heap.size + 1, 4, none⟩ = some (.int .i64 p.v3) ∧ w.cell? ⟨W.heap.size + 1, 5, none⟩ = some (.int .i64 p.t) :=
 ⟨h.sb.c0, h.sb.c1, h.sb.c2, cell_blk h.k1 (j := 0) rfl, cell_blk h.k1 (j := 1) rfl, cell_blk h.k2 (j := 0) rfl, cell_blk h.k2 (j := 1) rfl, cell_blk h.k2 (j := 2) rfl, cell_blk h.k2 (j := 3) rfl, cell_blk h.k2 (j := 4) rfl, cell_blk h.k2 (j := 5) rfl⟩
end
end Go.Proofs.YtnlcbheidiigaaaGreatDoor.Rs
namespace Go.Proofs.YtnlcbheidiigaaaGreatDoor
open Go.RowKit Go.Shelf Go.Extern.Stop Go.Stop Go.Extern
structure Sev (Ad : Nat → Addr) (n₀ : Nat) (W : World) (d b : Nat) (vs : List (Value × (List ByteArray × Nat))) : Prop where
 lay : ∃ g c, b < n₀ ∧ g < n₀ ∧ W.cell? ⟨b, 0, none⟩ = some (.slice (some ⟨g, 0, none⟩) vs.length c) ∧ ∀ (j : Nat) x, vs[j]? = some x → W.cell? ⟨g, j, none⟩ = some x.1
 two : 2 ≤ vs.length
 few : vs.length ≤ 1000
 each : ∀ x ∈ vs, Chn Ad n₀ W d x.1 x.2
def Top (Ad : Nat → Addr) (n₀ : Nat) (W : World) (d : Nat) (v : Value) (ls : List (List ByteArray × Nat)) : Prop :=
 (v = .nilIface ∧ ls = []) ∨ (∃ p, ls = [p] ∧ Chn Ad n₀ W d v p) ∨ ∃ b vs, v = .iface 235 (.pointer (some ⟨b, 0, none⟩)) ∧ ls = vs.map Prod.snd ∧ Sev Ad n₀ W d b vs
section
variable {Ad : Nat → Addr} {n₀ : Nat} {W : World} {d : Nat}
theorem Top.empty : Top Ad n₀ W d .nilIface [] := .inl ⟨rfl, rfl⟩
theorem Top.one (v : Value) (p : List ByteArray × Nat) (h : Chn Ad n₀ W d v p) : Top Ad n₀ W d v [p] := .inr (.inl ⟨p, rfl, h⟩)
theorem Top.many (b : Nat) (vs : List (Value × (List ByteArray × Nat))) (h : Sev Ad n₀ W d b vs) : Top Ad n₀ W d (.iface 235 (.pointer (some ⟨b, 0, none⟩))) (vs.map Prod.snd) := .inr (.inr ⟨b, vs, rfl, rfl, h⟩)
theorem Top.ways {motive : ∀ (v : Value) (ls : List (List ByteArray × Nat)), Top Ad n₀ W d v ls → Prop} (empty : motive .nilIface [] Top.empty) (one : ∀ v p (h : Chn Ad n₀ W d v p), motive v [p] (Top.one v p h))
  (many : ∀ b vs (h : Sev Ad n₀ W d b vs), motive (.iface 235 (.pointer (some ⟨b, 0, none⟩))) (vs.map Prod.snd) (Top.many b vs h)) {v : Value} {ls : List (List ByteArray × Nat)} (h : Top Ad n₀ W d v ls) : motive v ls h := by
 rcases h with ⟨rfl, rfl⟩ | ⟨p, rfl, h⟩ | ⟨b, vs, rfl, rfl, h⟩
 ·exact empty
 ·exact one v p h
 ·exact many b vs h
end
theorem Chn.one {Ad : Nat → Addr} {n₀ d : Nat} {W : World} {v : Value} {p : List ByteArray × Nat} (h : Chn Ad n₀ W d v p) : v.oneCell' = true := by
 obtain ⟨t, q, rfl, _⟩ := h.1.shape
 rfl
theorem Sev.move {Ad : Nat → Addr} {n₀ n₁ d b : Nat} {W W' : World} {vs : List (Value × (List ByteArray × Nat))} (h : Sev Ad n₀ W d b vs) (hb : Below n₀ W W') (hn : n₀ ≤ n₁) : Sev Ad n₁ W' d b vs := by
 obtain ⟨⟨g, c, h1, h2, h3, h4⟩, h5, h6, h7⟩ := h
 exact ⟨⟨g, c, by omega, by omega, (hb.cell (p := ⟨b, 0, none⟩) h1).trans h3, fun j x hx => (hb.cell (p := ⟨g, j, none⟩) h2).trans (h4 j x hx)⟩, h5, h6, fun x hx => (h7 x hx).move hb hn⟩
theorem Top.move {Ad : Nat → Addr} {n₀ n₁ d : Nat} {W W' : World} {v : Value} {ls : List (List ByteArray × Nat)} (h : Top Ad n₀ W d v ls) (hb : Below n₀ W W') (hn : n₀ ≤ n₁) : Top Ad n₁ W' d v ls := by
 cases h using Top.ways with
 | empty => exact .empty
 | one v p h => exact .one v p (h.move hb hn)
 | many b vs h => exact .many b vs (h.move hb hn)
theorem Top.later {Ad : Nat → Addr} {d : Nat} {W W' : World} {v : Value} {ls : List (List ByteArray × Nat)} (h : Top Ad W.heap.size W d v ls) (hb : Below W.heap.size W W') : Top Ad W'.heap.size W' d v ls := h.move hb hb.size
theorem Top.tr {Ad : Nat → Addr} {n₀ d : Nat} {W : World} {v : Value} {ls : List (List ByteArray × Nat)} (h : Top Ad n₀ W d v ls) : Tr Ad n₀ W d v ls := by
 cases h using Top.ways with
 | empty => exact .empty d
 | one v p h => exact h.tr
 | many b vs h =>
  obtain ⟨⟨g, c, h1, h2, h3, h4⟩, h5, h6, h7⟩ := h
  have := Tr.many (Ad := Ad) (n₀ := n₀) (W := W) d b g c (vs.map fun x => (x.1, [x.2])) h1 h2 (by simp; omega) (by simpa using h6) (by simpa using h3)
   (fun j x hx => by
    simp only [List.getElem?_map, Option.map_eq_some_iff] at hx
    obtain ⟨y, hy, rfl⟩ := hx
    exact h4 j y hy)
   (fun x hx => by
    obtain ⟨y, hy, rfl⟩ := List.mem_map.1 hx
    exact (h7 y hy).one)
   (fun x hx => by
    obtain ⟨y, hy, rfl⟩ := List.mem_map.1 hx
    exact (h7 y hy).tr)
  have e : ((vs.map fun x => (x.1, [x.2])).map Prod.snd).flatten = vs.map Prod.snd := by
   clear this h3 h4 h5 h6 h7
   induction vs with
   | nil => rfl
   | cons x t ih => simpa using ih
  rw [e] at this
  exact this
end Go.Proofs.YtnlcbheidiigaaaGreatDoor
namespace Go.Proofs.YtnlcbheidiigaaaGreatDoor
open Go.RowKit Go.Shelf
theorem noSeveralB (v : Value) (xT : TypeId) (w : World) : (Instr.typeAssert (.iface 208 v) xT 235 true).run Tryz.prog w = .ok (.tuple #[.pointer none, .bool false]) w := by kernel_rfl
theorem noSev (t : TypeId) (q : Value) (ht : t = 278 ∨ t = 208) (xT : TypeId) (w : World) : (Instr.typeAssert (.iface t q) xT 235 true).run Tryz.prog w = .ok (.tuple #[.pointer none, .bool false]) w := by
 rcases ht with rfl | rfl
 ·exact noSeveral q xT w
 ·exact noSeveralB q xT w
def Errs (B : Nat) (W : World) (v : Value) (us : List Value) : Prop := ∃ a c, v = .slice a us.length c ∧ (us = [] ∨ ∃ g, g < B ∧ a = some ⟨g, 0, none⟩ ∧ ∀ (j : Nat) x, us[j]? = some x → W.cell? ⟨g, j, none⟩ = some x)
theorem Errs.later {B : Nat} {W W' : World} {v : Value} {us : List Value} (h : Errs B W v us) (hb : Below B W W') : Errs B W' v us := by
 obtain ⟨a, c, h1, h2⟩ := h
 refine ⟨a, c, h1, h2.imp id ?_⟩
 rintro ⟨g, h0, h3, h4⟩
 exact ⟨g, h0, h3, fun j x hx => (hb.cell (p := ⟨g, j, none⟩) h0).trans (h4 j x hx)⟩
theorem own_errs {W : World} {B : Nat} {v : Value} {us : List Value} (h : W.ownsRow B 31 1 v us.length us) : Errs W.heap.size W v us := by
 obtain ⟨ga, gc, rfl⟩ := own_slice h
 refine ⟨ga, gc, rfl, ?_⟩
 by_cases h0 : 0 < us.length
 ·obtain ⟨g, rfl, _, h1⟩ := own_some h h0
  exact .inr ⟨g, h1, rfl, fun j x hx => by rw [h.cellAt j (by have := (List.getElem?_eq_some_iff.1 hx).1; omega)]; exact hx⟩
 ·exact .inl (List.eq_nil_of_length_eq_zero (by omega))
theorem app_cell (w : World) (x : Value) : ∀ (j : Nat) u, [x][j]? = some u → (w.alloc (.cells #[x] 31)).cell? ⟨w.heap.size, j, none⟩ = some u := by
 intro j u hu
 cases j with
 | zero => simp at hu; subst hu; exact new_cell w x 31
 | succ j => simp at hu
def Flt (B : Nat) (W : World) (u : Value) (vs : List Value) : Prop :=
 (u = .nilIface ∧ vs = []) ∨ (∃ t q, u = .iface t q ∧ (t = 278 ∨ t = 208) ∧ vs = [u]) ∨
 ∃ b ev, u = .iface 235 (.pointer (some ⟨b, 0, none⟩)) ∧ b < B ∧ W.cell? ⟨b, 0, none⟩ = some ev ∧ Errs B W ev vs ∧ vs.length ≤ 1000 ∧ ∀ v ∈ vs, ∃ t q, v = .iface t q ∧ (t = 278 ∨ t = 208)
theorem Flt.later {B : Nat} {W W' : World} {u : Value} {vs : List Value} (h : Flt B W u vs) (hb : Below B W W') : Flt B W' u vs := by
 rcases h with h | h | ⟨b, ev, h1, h2, h3, h4, h5⟩
 ·exact .inl h
 ·exact .inr (.inl h)
 ·exact .inr (.inr ⟨b, ev, h1, h2, (hb.cell (p := ⟨b, 0, none⟩) h2).trans h3, h4.later hb, h5⟩)
def FlatOk : Prop := ∀ (fv ev : Value) (xs us : List Value) (B : Nat) (w : World), B ≤ w.heap.size → w.ownsRow B 31 1 fv xs.length xs → Errs B w ev us → (∀ u ∈ us, ∃ t q, u = .iface t q ∧ (t = 278 ∨ t = 208)) → xs.length + us.length ≤ 3000 →
  Calls Tryz.prog 132 #[fv, ev] w fun e w' => ∃ v', e = .returned v' ∧ w'.ownsRow B 31 1 v' (xs ++ us).length (xs ++ us) ∧ Below B w w'
theorem isSev (v : Value) (xT : TypeId) (w : World) : (Instr.typeAssert (.iface 235 v) xT 235 true).run Tryz.prog w = .ok (.tuple #[v, .bool true]) w := by kernel_rfl
set_option maxHeartbeats 2000000 in
set_option maxRecDepth 100000 in
theorem flat_step (fv ev : Value) (xs : List Value) (us : List (Value × List Value)) (B : Nat) (w : World) (hB : B ≤ w.heap.size) (ho : w.ownsRow B 31 1 fv xs.length xs) (he : Errs B w ev (us.map Prod.fst)) (hu : ∀ u ∈ us, Flt B w u.1 u.2) (hx : xs.length + ((us.map Prod.snd).flatten).length ≤ 3000) (hx2 : us.length ≤ 3000)
  (hF : (∃ u ∈ us, ∃ b, u.1 = .iface 235 (.pointer (some ⟨b, 0, none⟩))) → FlatOk) :
  Calls Tryz.prog 132 #[fv, ev] w fun e w' => ∃ v', e = .returned v' ∧ w'.ownsRow B 31 1 v' (xs ++ (us.map Prod.snd).flatten).length (xs ++ (us.map Prod.snd).flatten) ∧ Below B w w' := by
 obtain ⟨fa, fc, rfl⟩ := own_slice ho
 have HO := hid ho
 obtain ⟨ea, ec, rfl, -⟩ := id he
 rw [List.length_map] at he ⊢
 have HEr := hid he
 have HU := hid hu
 have HF := hid hF
 have HX := hid hx
 have hui : (us.length : Int) ≤ 3000 := by omega
 clear ho he hu hF hx
 go_enter Tryz.func132, Tryz.ntmps132
 go_wp2_with fail
 go_loopw [0, 6, 7, 8, 9, 12] (fun f _ _ _ _ i wr => ∃ (k : Nat) (ga : Option Addr) (gc : Nat) (y : List Value), k ≤ us.length ∧ i = .int .i64 k ∧ f = .slice ga y.length gc ∧ y = xs ++ ((us.take k).map Prod.snd).flatten ∧ wr.ownsRow B 31 1 (.slice ga y.length gc) y.length y ∧ Below B w wr) (fun _ _ _ _ _ i _ => us.length - (intOf i).toNat)
 case atStart => exact ⟨0, fa, fc, xs, Nat.zero_le _, rfl, rfl, by simp, HO.out, Below.refl _ _⟩
 case round =>
  obtain ⟨k, ga, gc, y, hk, rfl, rfl, hy, ho, hb⟩ := hrel
  have HY := hid hy
  have HOy := hid ho
  have HB := hid hb
  clear hy ho hb HO
  by_cases hlt : k < us.length
  ·obtain ⟨x, hxk⟩ := at_lt us k hlt
   have HT := hid (take_next hxk)
   have HM := hid (List.mem_of_getElem? hxk)
   obtain ⟨g, hgB, rfl, hcells⟩ : ∃ g, g < B ∧ ea = some ⟨g, 0, none⟩ ∧ ∀ (j : Nat) z, (us.map Prod.fst)[j]? = some z → wr.cell? ⟨g, j, none⟩ = some z := by
    obtain ⟨a, c, h1, h2⟩ := HEr.out.later HB.out
    rcases h2 with h2 | ⟨g, h3, h4, h5⟩
    ·rw [List.map_eq_nil_iff] at h2; rw [h2] at hlt; simp at hlt
    ·simp only [Value.slice.injEq] at h1; rw [h1.1]; exact ⟨g, h3, h4, h5⟩
   have c1 : wr.cell? ⟨g, k, none⟩ = some x.1 := hcells k x.1 (by simp [hxk])
   have hyl : y.length + x.2.length ≤ 3000 := by
    have h1 := HX.out
    have h2 := (cut_prefix HT.out id (x.2.map id) (List.prefix_refl _)).length_le
    have h3 : y.length = xs.length + (((us.take k).map Prod.snd).flatten).length := by rw [HY.out, List.length_append]
    simp only [List.length_append, List.map_id_fun, id_eq] at h2
    omega
   have HN : Hid (xs ++ ((us.take (k + 1)).map Prod.snd).flatten = y ++ x.2) := by show _ = _; rw [HT.out, HY.out]; simp
   have hsz : B ≤ wr.heap.size := Nat.le_trans hB HB.out.size
   clear hxk hcells
   rcases (HU.out x HM.out).later HB.out with ⟨hxn, hv⟩ | ⟨t, q, hxe, ht, hv⟩ | ⟨b, sv, hxe, hbB, hcb, her, hvl, hvs⟩
   ·rw [hxn] at c1
    have R : Hid (y = xs ++ ((us.take (k + 1)).map Prod.snd).flatten) := by show _ = _; rw [HN.out, hv]; simp
    go_wp2_with fail
    go_roundw
    case rel => exact ⟨k + 1, ga, gc, y, by omega, by go_num, rfl, R.out, HOy.out, HB.out⟩
    case measure => simp [intOf]; omega
   ·rw [hxe] at c1
    have nS := noSev t q ht
    have R : Hid (y ++ [.iface t q] = xs ++ ((us.take (k + 1)).map Prod.snd).flatten) := by show _ = _; rw [HN.out, hv, hxe]
    have hy1 : y.length + 1 ≤ 5000 := by rw [hv] at hyl; simp at hyl; omega
    clear ht hv hxe
    go_wp2_with (at_builtin; refine wpList_errs _ rfl (.tmp 17) (.tmp 19) rfl B _ y rfl ?_ wr.heap.size 1 [.iface t q] rfl ?_ ?_ ?_ ?_ ?_; exact HOy.out.alloc _; exact app_cell wr _; intro u hu; simp at hu; subst hu; rfl; exact hy1; exact Nat.le_trans hsz (by simp); intro g1 c2 y1 w2 h2 o2 b2)
    go_roundw
    case rel => exact ⟨k + 1, g1, c2, y1, by omega, by go_num, rfl, by rw [h2.out, R.out], o2.out, (HB.out.alloc hsz _).trans b2.out⟩
    case measure => simp [intOf]; omega
   ·rw [hxe] at c1
    have yS := isSev
    have R : Hid (y ++ x.2 = xs ++ ((us.take (k + 1)).map Prod.snd).flatten) := HN.out.symm
    have C := hid (HF.out ⟨x, HM.out, b, hxe⟩ (.slice ga y.length gc) sv y x.2 B wr hsz HOy.out her hvs hyl)
    clear her hvs hxe
    go_wp2_with fail
    refine C.out.mono ?_
    rintro e w2 ⟨v2, rfl, o2, b2⟩
    obtain ⟨g2, c2, rfl⟩ := own_slice o2
    have O2 := hid o2
    have B2 := hid (HB.out.trans b2)
    clear o2 b2
    generalize hyx : y ++ x.2 = yx at *
    go_wp2_with fail
    go_roundw
    case rel => exact ⟨k + 1, g2, c2, yx, by omega, by go_num, rfl, R.out, O2.out, B2.out⟩
    case measure => simp [intOf]; omega
  ·have e : Hid (y = xs ++ (us.map Prod.snd).flatten) := by show _ = _; rw [HY.out, List.take_of_length_le (by omega)]
   go_wp2_with fail
   go_ret
   have h := HOy.out
   exact ⟨_, rfl, by rw [← e.out]; exact h, HB.out⟩
theorem flat_id : ∀ us : List Value, ((us.map fun u => (u, [u])).map Prod.snd).flatten = us
 | [] => rfl
 | u :: us => by simpa using flat_id us
theorem fst_id : ∀ us : List Value, (us.map fun u => (u, [u])).map Prod.fst = us
 | [] => rfl
 | u :: us => by simpa using fst_id us
theorem flat_plain : FlatOk := by
 intro fv ev xs us B w hB ho he hu hx
 have h := flat_step fv ev xs (us.map fun u => (u, [u])) B w hB ho (by rw [fst_id us]; exact he) (fun u hu' => by
  obtain ⟨v, hv, rfl⟩ := List.mem_map.1 hu'
  obtain ⟨t, q, e, ht⟩ := hu v hv
  exact .inr (.inl ⟨t, q, e, ht, rfl⟩)) (by
   have : ((us.map fun u => (u, [u])).map Prod.snd).flatten = us := flat_id us
   rw [this]; exact hx) (by simp; omega) (by
  rintro ⟨u, hu', b, hb⟩
  obtain ⟨v, hv, rfl⟩ := List.mem_map.1 hu'
  obtain ⟨t, q, e, ht⟩ := hu v hv
  simp only at hb
  rw [e] at hb
  cases hb
  rcases ht with h | h <;> cases h)
 rw [show ((us.map fun u => (u, [u])).map Prod.snd).flatten = us from flat_id us] at h
 exact h
theorem top_flt {Ad : Nat → Addr} {B d : Nat} {W : World} {u : Value} {ls : List (List ByteArray × Nat)} (h : Top Ad B W d u ls) : ∃ vs : List (Value × (List ByteArray × Nat)), Flt B W u (vs.map Prod.fst) ∧ ls = vs.map Prod.snd ∧ ∀ x ∈ vs, Chn Ad B W d x.1 x.2 := by
 cases h using Top.ways with
 | empty => exact ⟨[], .inl ⟨rfl, rfl⟩, rfl, by simp⟩
 | one v p h =>
  obtain ⟨t, q, e, ht⟩ := h.1.shape
  exact ⟨[(u, p)], .inr (.inl ⟨t, q, e, ht, rfl⟩), rfl, by simpa using h⟩
 | many b vs h =>
  obtain ⟨⟨g, c, h1, h2, h3, h4⟩, h5, h6, h7⟩ := h
  refine ⟨vs, .inr (.inr ⟨b, _, rfl, h1, h3, ⟨_, c, by simp, .inr ⟨g, h2, rfl, fun j x hx => ?_⟩⟩, by simpa using h6, fun v hv => ?_⟩), rfl, h7⟩
  ·simp only [List.getElem?_map, Option.map_eq_some_iff] at hx
   obtain ⟨y, hy, rfl⟩ := hx
   exact h4 j y hy
  ·obtain ⟨y, hy, rfl⟩ := List.mem_map.1 hv
   exact (h7 y hy).1.shape
theorem tops_flt {Ad : Nat → Addr} {B d : Nat} {W : World} : ∀ us : List (Value × List (List ByteArray × Nat)), (∀ u ∈ us, Top Ad B W d u.1 u.2) →
  ∃ zs : List (Value × List (Value × (List ByteArray × Nat))), zs.map Prod.fst = us.map Prod.fst ∧ (us.map Prod.snd).flatten = ((zs.map Prod.snd).flatten).map Prod.snd ∧ (∀ z ∈ zs, Flt B W z.1 (z.2.map Prod.fst)) ∧ ∀ x ∈ (zs.map Prod.snd).flatten, Chn Ad B W d x.1 x.2
 | [], _ => ⟨[], rfl, rfl, by simp, by simp⟩
 | u :: us, h => by
  obtain ⟨vs, h1, h2, h3⟩ := top_flt (h u (by simp))
  obtain ⟨zs, e1, e2, e3, e4⟩ := tops_flt us (fun x hx => h x (by simp [hx]))
  refine ⟨(u.1, vs) :: zs, by simp [e1], by simp [e2, h2], ?_, ?_⟩
  ·intro z hz
   rcases List.mem_cons.1 hz with rfl | hz
   ·exact h1
   ·exact e3 z hz
  ·intro x hx
   simp only [List.map_cons, List.flatten_cons, List.mem_append] at hx
   rcases hx with hx | hx
   ·exact h3 x hx
   ·exact e4 x hx
theorem fst_flat : ∀ zs : List (Value × List (Value × (List ByteArray × Nat))), ((zs.map fun z => (z.1, z.2.map Prod.fst)).map Prod.snd).flatten = ((zs.map Prod.snd).flatten).map Prod.fst
 | [] => rfl
 | z :: zs => by simpa using fst_flat zs
theorem fst_fst : ∀ zs : List (Value × List (Value × (List ByteArray × Nat))), (zs.map fun z => (z.1, z.2.map Prod.fst)).map Prod.fst = zs.map Prod.fst
 | [] => rfl
 | z :: zs => by simp
set_option maxHeartbeats 2000000 in
set_option maxRecDepth 100000 in
theorem all_top (Ad : Nat → Addr) (d : Nat) (ev : Value) (us : List (Value × List (List ByteArray × Nat))) (w : World) (he : Errs w.heap.size w ev (us.map Prod.fst)) (hT : ∀ u ∈ us, Top Ad w.heap.size w d u.1 u.2) (hn : us.length ≤ 1000) (hl : (us.map Prod.snd).flatten.length ≤ 1000) :
  Calls Tryz.prog 105 #[ev] w fun e w' => ∃ v', e = .returned v' ∧ Top Ad w'.heap.size w' d v' (us.map Prod.snd).flatten ∧ Below w.heap.size w w' := by
 obtain ⟨zs, e1, e2, e3, e4⟩ := tops_flt us hT
 have hzl : zs.length = us.length := by have := congrArg List.length e1; simpa using this
 rw [e2] at hl ⊢
 have FC := flat_step (.slice none 0 0) ev [] (zs.map fun z => (z.1, z.2.map Prod.fst)) w.heap.size w (Nat.le_refl _) (World.ownsRow_nil _ _ _ _) (by rw [fst_fst, e1]; exact he)
  (fun u hu => by obtain ⟨z, hz, rfl⟩ := List.mem_map.1 hu; exact e3 z hz) (by rw [fst_flat, List.length_map]; rw [List.length_map] at hl; simp only [List.length_nil]; omega) (by simp; omega) (fun _ => flat_plain)
 rw [fst_flat, List.nil_append] at FC
 have HF := hid FC
 have H4 := hid e4
 obtain ⟨ts, hts⟩ : ∃ ts, ts = (zs.map Prod.snd).flatten := ⟨_, rfl⟩
 rw [← hts] at HF H4 hl ⊢
 rw [List.length_map] at hl
 clear FC e1 e2 e3 e4 hts hT he hzl hn
 rcases ts with _ | ⟨x, _ | ⟨y, r⟩⟩
 ·go_enter Tryz.func105, Tryz.ntmps105
  go_wp2_with fail
  refine HF.out.mono ?_
  rintro e w1 ⟨v1, rfl, ho, hb⟩
  rw [List.length_map] at ho
  obtain ⟨ga, gc, rfl⟩ := own_slice ho
  have O1 := hid ho
  have B1 := hid hb
  have C1 := hid (fun x hx => (H4.out x hx).move hb hb.size)
  clear ho hb HF H4
  go_wp2_with fail
  go_ret
  exact ⟨_, rfl, .empty, B1.out⟩
 ·go_enter Tryz.func105, Tryz.ntmps105
  go_wp2_with fail
  refine HF.out.mono ?_
  rintro e w1 ⟨v1, rfl, ho, hb⟩
  rw [List.length_map] at ho
  obtain ⟨ga, gc, rfl⟩ := own_slice ho
  have O1 := hid ho
  have B1 := hid hb
  have C1 := hid (fun x hx => (H4.out x hx).move hb hb.size)
  clear ho hb HF H4
  obtain ⟨g, rfl, hg⟩ := own_some O1.out (by simp)
  have c1 : w1.cell? ⟨g, 0, none⟩ = some x.1 := by rw [O1.out.cellAt 0 (by simp)]; rfl
  go_wp2_with fail
  go_ret
  exact ⟨_, rfl, .one _ x.2 (C1.out x (by simp)), B1.out⟩
 ·obtain ⟨ts, hts⟩ : ∃ ts, ts = x :: y :: r := ⟨_, rfl⟩
  have h2 : 2 ≤ ts.length := by rw [hts]; simp
  rw [← hts] at HF H4 hl ⊢
  clear hts
  have hli : (ts.length : Int) ≤ 1000 := by omega
  have h2i : (2 : Int) ≤ ts.length := by omega
  have z0 : ((ts.length : Int) == 0) = false := beq_eq_false_iff_ne.2 (by omega)
  have z1 : ((ts.length : Int) == 1) = false := beq_eq_false_iff_ne.2 (by omega)
  go_enter Tryz.func105, Tryz.ntmps105
  go_wp2_with fail
  refine HF.out.mono ?_
  rintro e w1 ⟨v1, rfl, ho, hb⟩
  rw [List.length_map] at ho
  obtain ⟨ga, gc, rfl⟩ := own_slice ho
  have O1 := hid ho
  have B1 := hid hb
  have C1 := hid (fun x hx => (H4.out x hx).move hb hb.size)
  clear ho hb HF H4
  obtain ⟨g, rfl, hg⟩ := own_some O1.out (by omega)
  have BA := hid (show Below w1.heap.size w1 (w1.alloc (.cells #[.slice (some ⟨g, 0, none⟩) ts.length gc] 237)) from (Below.refl _ _).alloc (Nat.le_refl _) _)
  have R : Hid (Top Ad (w1.alloc (.cells #[.slice (some ⟨g, 0, none⟩) ts.length gc] 237)).heap.size (w1.alloc (.cells #[.slice (some ⟨g, 0, none⟩) ts.length gc] 237)) d (.iface 235 (.pointer (some ⟨w1.heap.size, 0, none⟩))) (ts.map Prod.snd)) := by
   refine .many w1.heap.size ts ⟨⟨g, gc, by simp, by simp; omega, new_cell w1 _ _, fun j x hx => ?_⟩, h2, by omega, fun x hx => (C1.out x hx).move BA.out BA.out.size⟩
   have hj := (List.getElem?_eq_some_iff.1 hx).1
   rw [BA.out.cell (p := ⟨g, j, none⟩) hg.2, O1.out.cellAt j (by omega)]
   simp [hx]
  go_wp2_with fail
  go_ret
  exact ⟨_, rfl, R.out, B1.out.trans (BA.out.mono B1.out.size)⟩
def eight : List Nat := [1, 2, 4, 6, 7, 9, 10, 17]
structure Env8 (w : World) (Ad : Nat → Addr) : Prop where
 cell : ∀ k, k ∈ eight → k ≤ 18 → w.cell? ⟨gv k, 0, none⟩ = some (.iface 278 (.pointer (some (Ad k))))
 sen : ∀ k, k ∈ eight → k ≤ 18 → SenK w (Ad k)
 inj : ∀ i j, i ∈ eight → j ∈ eight → Ad i = Ad j → i = j
theorem eight_le : ∀ k ∈ eight, 1 ≤ k ∧ k ≤ 18 := by decide
theorem Env8.later {w w' : World} {Ad : Nat → Addr} (h : Env8 w Ad) (hb : Below w.heap.size w w') : Env8 w' Ad :=
 ⟨fun k h1 h2 => (hb.cell (p := ⟨gv k, 0, none⟩) (World.block_lt_of_cell? w _ (h.cell k h1 h2))).trans (h.cell k h1 h2), fun k h1 h2 => (h.sen k h1 h2).below hb (h.sen k h1 h2).lt, h.inj⟩
theorem Env8.same {w : World} {Ad : Nat → Addr} (h : Env8 w Ad) {p k : Nat} (hp : p ∈ eight) (hk : k ∈ eight) : decide (Ad p = Ad k) = decide (p = k) := by
 by_cases e : p = k
 ·subst e; simp
 ·have : Ad p ≠ Ad k := fun h' => e (h.inj p k hp hk h')
  simp [e, this]
theorem Env.eight {w : World} {Ad : Nat → Addr} (h : Env w Ad) : Env8 w Ad :=
 ⟨fun k h1 h2 => h.cell k (eight_le k h1).1 h2, fun k h1 h2 => h.sen k (eight_le k h1).1 h2, fun i j h1 h2 => h.inj i j (eight_le i h1).1 (eight_le i h1).2 (eight_le j h2).1 (eight_le j h2).2⟩
attribute [local go_sem] Oper.semAt_some
theorem Turn.frozen {P : Obj → Prop} {B : Nat} {w w' : World} (h : Turn P B w w') {p : Addr} {x : Value} (hc : w.cell? p = some x) (hp : p.block < B) : w'.frozen? p = w.frozen? p := by
 have hlt := World.block_lt_of_cell? w p hc
 have hb := h.block p.block _ (Array.getElem?_eq_getElem hlt) (.inl hp)
 exact World.frozen?_of_block (w := w) (hb.trans (Array.getElem?_eq_getElem hlt).symm)
theorem new_free (w : World) (x : Value) (e : TypeId) : (w.alloc (.cells #[x] e)).frozen? ⟨w.heap.size, 0, none⟩ = false := by
 have h := heap_alloc_new w (.cells #[x] e)
 unfold World.frozen?; rw [show (⟨w.heap.size, 0, none⟩ : Addr).block = w.heap.size from rfl, h]; rfl
def HasI (At : Nat → Addr) (n₀ : Nat) (w : World) (r t : Nat) (a : Addr) (s : List Lf) (W : World) : Prop :=
 ((∀ x ∈ s, At x.k ≠ a) ∧ W.cell? ⟨r, 0, none⟩ = some (.bool false) ∧ W.frozen? ⟨r, 0, none⟩ = false ∧ W.cell? ⟨t, 0, none⟩ = some (.iface 278 (.pointer (some a)))) ∧ Below n₀ w W
def HasX (At : Nat → Addr) (n₀ : Nat) (w : World) (r : Nat) (a : Addr) (c : Code) (s : List Lf) (W : World) : Prop :=
 (c = .ret ∧ (∃ x ∈ s, At x.k = a) ∧ W.cell? ⟨r, 0, none⟩ = some (.bool true)) ∧ Below n₀ w W
theorem HasI.turn {At : Nat → Addr} {n₀ : Nat} {w : World} {r t B : Nat} {a : Addr} {P : Obj → Prop} (hr : r < B) (ht : t < B) (hw : n₀ ≤ B) (h0 : n₀ ≤ w.heap.size) (s : List Lf) (A A' : World) (h : HasI At n₀ w r t a s A) (h1 : Turn P B A A') : HasI At n₀ w r t a s A' := by
 obtain ⟨⟨h2, h3, h4, h5⟩, h6⟩ := h
 exact ⟨⟨h2, h1.cell h3 hr, (h1.frozen h3 hr).trans h4, h1.cell h5 ht⟩, h6.trans ((h1.mono (fun _ h => h) hw).below (Nat.le_trans h0 h6.size))⟩
theorem HasX.turn {At : Nat → Addr} {n₀ : Nat} {w : World} {r B : Nat} {a : Addr} {P : Obj → Prop} (hr : r < B) (hw : n₀ ≤ B) (h0 : n₀ ≤ w.heap.size) (c : Code) (s : List Lf) (A A' : World) (h : HasX At n₀ w r a c s A) (h1 : Turn P B A A') : HasX At n₀ w r a c s A' := by
 obtain ⟨⟨h2, h3, h4⟩, h6⟩ := h
 exact ⟨⟨h2, h3, h1.cell h4 hr⟩, h6.trans ((h1.mono (fun _ h => h) hw).below (Nat.le_trans h0 h6.size))⟩
theorem odd_kept (o : Obj) (h : Odd o) : ¬ isKept o := by
 rintro ⟨cur, rfl | rfl⟩ <;> cases h
set_option maxHeartbeats 2000000 in
set_option maxRecDepth 100000 in
theorem has_gen (Ad At : Nat → Addr) (v : Value) (ls : List (List ByteArray × Nat)) (d : Nat) (w : World) (hE : Env w Ad) (hAt : ∀ j, 1 ≤ j → j ≤ 18 → SenK w (At j)) (hT : Tr At w.heap.size w d v ls) (hd : d ≤ 1000) (k : Nat) (hk : k < 18) :
  Calls Tryz.prog 90 #[v, .int .i64 ((k : Int) + 1)] w fun e w' => e = .returned (.bool (decide (∃ p ∈ ls, At p.2 = Ad (k + 1)))) ∧ Below w.heap.size w w' := by
 have HAT := hid hAt
 clear hAt
 have HV := hid hT.isIface
 have HT := hid hT
 have HE := hid hE
 have b1 : Below w.heap.size w (w.alloc (.cells #[.bool false] 4)) := (Below.refl _ _).alloc (Nat.le_refl _) _
 have E1 := hid (hE.later b1)
 have BB := hid b1
 clear hT hE b1
 refine callsIn_wide (n := 5) |>.1 ?_
 refine callsIn_of_wp_marks Tryz.func90 rfl trivial ?_ rfl
 simp only [Tryz.ntmps90, List.size_toArray, List.length_cons, List.length_nil, Nat.reduceAdd, Nat.reduceSub, Array.replicate_succ, Array.replicate_zero, List.push_toArray, List.append_toArray, List.nil_append, List.cons_append]
 gi_wp2_with fail
 refine ⟨trivial, ?_⟩
 refine (callsIn_wide.2 (of_some _ Ad E1.out k hk)).mono ?_
 rintro e w2 ⟨rfl, hb2⟩
 have B2 := hid (show Below (w.heap.size + 1) (w.alloc (.cells #[.bool false] 4)) w2 by simpa using hb2)
 clear hb2
 gi_wp2_with fail
 refine ⟨trivial, ?_⟩
 refine (callsIn_wide.2 (parts_any v HV.out _)).mono ?_
 rintro e w' ⟨rfl, rfl⟩
 gi_wp2_with fail
 obtain ⟨wl, hwl⟩ : ∃ wl, wl = (w2.alloc (.cells #[.iface 278 (.pointer (some (Ad (k + 1))))] 31)).alloc (.cells #[v] 31) := ⟨_, rfl⟩
 rw [← hwl]
 have hs2 : w.heap.size + 1 ≤ w2.heap.size := by have := B2.out.size; simpa using this
 have hsz : wl.heap.size = w2.heap.size + 1 + 1 := by rw [hwl]; simp
 have hl2 : Below w2.heap.size w2 wl := by rw [hwl]; exact ((Below.refl _ _).alloc (Nat.le_refl _) _).alloc (by simp) _
 have hb0 : Below w.heap.size w wl := (BB.out.trans (B2.out.mono (by omega))).trans (hl2.mono (by omega))
 have c0 : wl.cell? ⟨w.heap.size, 0, none⟩ = some (.bool false) := (hl2.cell (p := ⟨w.heap.size, 0, none⟩) (by show w.heap.size < _; omega)).trans ((B2.out.cell (p := ⟨w.heap.size, 0, none⟩) (by show w.heap.size < _; omega)).trans (new_cell w _ _))
 have f0 : wl.frozen? ⟨w.heap.size, 0, none⟩ = false := (hl2.frozen (p := ⟨w.heap.size, 0, none⟩) (by show w.heap.size < _; omega)).trans ((B2.out.frozen (p := ⟨w.heap.size, 0, none⟩) (by show w.heap.size < _; omega)).trans (new_free w _ _))
 have c1 : wl.cell? ⟨w2.heap.size, 0, none⟩ = some (.iface 278 (.pointer (some (Ad (k + 1))))) := by
  rw [hwl]
  exact (((Below.refl (w2.heap.size + 1) _).alloc (by simp) _).cell (p := ⟨w2.heap.size, 0, none⟩) (by show w2.heap.size < _; omega)).trans (new_cell w2 _ _)
 have c2 : wl.cell? ⟨w2.heap.size + 1, 0, none⟩ = some v := by
  rw [hwl]
  have := new_cell (w2.alloc (.cells #[.iface 278 (.pointer (some (Ad (k + 1))))] 31)) v 31
  rw [World.size_alloc] at this
  exact this
 refine range_law (P := Tryz.prog) rfl (by decide) (gf := 107) (lb := #[.pointer (some ⟨w2.heap.size + 1, 0, none⟩)]) rfl trivial (enters_of Tryz.func107 (by kernel_rfl) rfl)
  (encs At) (fun _ => rfl) isRow isRow_cells (Handed wl.heap.size ls) (HasI At w.heap.size wl w.heap.size w2.heap.size (Ad (k + 1))) (HasX At w.heap.size wl w.heap.size (Ad (k + 1))) (Kp w.heap.size)
  (fun xs => xs.map Lf.pair = ls) (fun xs => xs.map Lf.pair <+: ls)
  ?hR (HasI.turn (by omega) (by omega) (by omega) (by omega)) (HasX.turn (by omega) (by omega) (by omega)) ⟨⟨by simp, c0, f0, c1⟩, Below.refl _ _⟩ w.heap.size ?hBi ?hBx ?hKt ?hKb
  (parts_seq At w.heap.size (w2.heap.size + 1) d w wl v ls _ _ HT.out hd hb0 (by omega) (by omega) c2)
  (fun x => { tmps := #[v, .int .i64 ((k : Int) + 1), undef, undef, .pointer (some ⟨w.heap.size, 0, none⟩), .pointer (some ⟨w2.heap.size, 0, none⟩), undef, .iface 278 (.pointer (some (At x.k))), .int .i64 ((k : Int) + 1), .iface 278 (.pointer (some (Ad (k + 1)))), .iface 278 (.pointer (some (Ad (k + 1)))), .bool false, v, .func (.func 107) #[] #[.pointer (some ⟨w2.heap.size + 1, 0, none⟩)], x.tv, .iface 278 (.pointer (some (At x.k))), undef, undef, undef], defers := [] }) ?assign ?body ?done ?stop
 case hR =>
  rintro s x A B ⟨h1, h2⟩ ht
  exact ⟨own_later h1 fun g cur _ hg => ht.block g _ hg (.inr fun h => by cases h), h2⟩
 case hBi => exact fun s A h => h.2
 case hBx => exact fun c s A h => h.2
 case hKt => exact fun h1 h2 => h1.trans h2
 case hKb => exact fun h => h.mono odd_kept (by omega)
 case assign =>
  intro l x W K hK
  simp only [encs]
  gi_wp2
  exact hK
 case body =>
  rintro l pre x W hl ⟨⟨hp, hc, hf, ht⟩, hB⟩ ⟨htr, hx1, hx2, -⟩
  have hEW := HE.out.later (hb0.trans hB)
  have C := hid (is_any (At x.k) (Ad (k + 1)) W ((HAT.out _ hx1 hx2).below (hb0.trans hB) (HAT.out _ hx1 hx2).lt) (hEW.sen _ (by omega) (by omega)))
  have hsW : w.heap.size < W.heap.size := World.block_lt_of_cell? W _ hc
  by_cases he : At x.k = Ad (k + 1)
  ·rw [decide_eq_true he] at C
   have HQ := hid he
   clear he
   gi_wp2_with fail
   refine ⟨trivial, ?_⟩
   refine (CallsIn.inRound l (callsIn_wide.2 C.out)).mono ?_
   rintro e w' ⟨rfl, rfl⟩
   gi_wp2_with fail
   have cs : (W.setCell ⟨w.heap.size, 0, none⟩ (.bool true)).cell? ⟨w.heap.size, 0, none⟩ = some (.bool true) := World.cell?_setCell_same' _ _ _ (by rw [hc]; rfl)
   exact ⟨(KeepsOthers.setCell _ _ _).trans (KeepsOthers.alloc _ _), ⟨rfl, ⟨x, by simp, HQ.out⟩, (((Below.refl (w.heap.size + 1) _).alloc (by simp; omega) _).cell (p := ⟨w.heap.size, 0, none⟩) (by show w.heap.size < _; omega)).trans cs⟩, (hB.setCell (p := ⟨w.heap.size, 0, none⟩) (Nat.le_refl _) _).alloc (by simp; omega) _⟩
  ·rw [decide_eq_false he] at C
   have bb : Below W.heap.size W (W.alloc (.cells #[.bool false] 4)) := (Below.refl _ _).alloc (Nat.le_refl _) _
   gi_wp2_with fail
   refine ⟨trivial, ?_⟩
   refine (CallsIn.inRound l (callsIn_wide.2 C.out)).mono ?_
   rintro e w' ⟨rfl, rfl⟩
   gi_wp2_with fail
   refine ⟨KeepsOthers.alloc _ _, Turn.alloc _ _ _ _, ⟨fun y hy => (List.mem_append.1 hy).elim (hp y) (fun e => by simp at e; subst e; exact he), (bb.cell (p := ⟨w.heap.size, 0, none⟩) hsW).trans hc, (bb.frozen (p := ⟨w.heap.size, 0, none⟩) hsW).trans hf, (bb.cell (p := ⟨w2.heap.size, 0, none⟩) (World.block_lt_of_cell? W _ ht)).trans ht⟩, hB.alloc (by omega) _⟩
 case done =>
  rintro D ys W hD hS ⟨⟨hne, hc, hf, _⟩, hB⟩ hK
  have hdec : decide (∃ p ∈ ls, At p.2 = Ad (k + 1)) = false := by
   simp only [decide_eq_false_iff_not]
   rw [← hS]
   rintro ⟨p, hp, e⟩
   obtain ⟨x, hx, rfl⟩ := List.mem_map.1 hp
   exact hne x hx e
  gi_wp2
  have hK' := (KeepsOthers.setCell W ⟨w.heap.size, 0, none⟩ (.bool false)).same D _ hK rfl
  refine ⟨by simp, .inl ⟨_, _, rfl, run_takeDeferred hK', ?_⟩⟩
  have hc5 := cell_kept (World.cell?_setCell_same' W ⟨w.heap.size, 0, none⟩ (.bool false) (by rw [hc]; rfl)) (grownBy_putObj' _ D (.deferred none)) (fun r e => by cases e; exact ⟨_, hK', rfl⟩)
  refine ⟨.bool false, ?_, by rw [hdec], (hb0.trans (hB.setCell (p := ⟨w.heap.size, 0, none⟩) (Nat.le_refl _) _)).trans ((Turn.put (P := Odd) _ (show w.heap.size ≤ D by omega) hK' rfl).below (Nat.le_trans hb0.size (Nat.le_trans hB.size (by simp))))⟩
  simp [results, Tryz.f90, go_sem, hc5]
 case stop =>
  rintro D c pre W hD hS ⟨⟨rfl, ⟨x, hx, he⟩, hc⟩, hB⟩ hK
  have hdec : decide (∃ p ∈ ls, At p.2 = Ad (k + 1)) = true := by
   simp only [decide_eq_true_eq]
   exact ⟨x.pair, hS.subset (List.mem_map.2 ⟨x, hx, rfl⟩), he⟩
  gi_wp2
  refine ⟨by simp, .inl ⟨_, _, rfl, run_takeDeferred hK, ?_⟩⟩
  have hc5 := cell_kept hc (grownBy_putObj' _ D (.deferred none)) (fun r e => by cases e; exact ⟨_, hK, rfl⟩)
  refine ⟨.bool true, ?_, by rw [hdec], (hb0.trans hB).trans ((Turn.put (P := Odd) _ (show w.heap.size ≤ D by omega) hK rfl).below (Nat.le_trans hb0.size hB.size))⟩
  simp [results, Tryz.f90, go_sem, hc5]
theorem Tr.range {Ad : Nat → Addr} {n₀ : Nat} {W : World} {d : Nat} {v : Value} {ls : List (List ByteArray × Nat)} (h : Tr Ad n₀ W d v ls) : ∀ p ∈ ls, 1 ≤ p.2 ∧ p.2 ≤ 18 := by
 induction h using Tr.ind with
 | empty d => simp
 | leaf d k hk => simpa using hk
 | blame d b s inner ls hbn c0 c1 hi ih =>
  intro p hp
  obtain ⟨q, hq, rfl⟩ := List.mem_map.1 hp
  exact ih q hq
 | many d b g c vs hbn hgn h0 hn cb cg one hi ih =>
  intro p hp
  obtain ⟨l, hl, hp⟩ := List.mem_flatten.1 hp
  obtain ⟨x, hx, rfl⟩ := List.mem_map.1 hl
  exact ih x hx p hp
theorem has_any (Ad : Nat → Addr) (v : Value) (ls : List (List ByteArray × Nat)) (d : Nat) (w : World) (hE : Env w Ad) (hT : Tr Ad w.heap.size w d v ls) (hd : d ≤ 1000) (k : Nat) (hk : k < 18) :
  Calls Tryz.prog 90 #[v, .int .i64 ((k : Int) + 1)] w fun e w' => e = .returned (.bool (decide (k + 1 ∈ ls.map Prod.snd))) ∧ Below w.heap.size w w' := by
 have h := has_gen Ad Ad v ls d w hE hE.sen hT hd k hk
 have e : decide (∃ p ∈ ls, Ad p.2 = Ad (k + 1)) = decide (k + 1 ∈ ls.map Prod.snd) := by
  apply decide_eq_decide.2
  constructor
  ·rintro ⟨p, hp, hq⟩
   have hr := hT.range p hp
   exact List.mem_map.2 ⟨p, hp, hE.inj _ _ hr.1 hr.2 (by omega) (by omega) hq⟩
  ·intro hm
   obtain ⟨p, hp, hq⟩ := List.mem_map.1 hm
   exact ⟨p, hp, by rw [hq]⟩
 rw [e] at h
 exact h
def firstK (ns : List Nat) : Nat → Nat → Nat
 | 0, k => k
 | f + 1, k => if k + 1 ∈ ns then k else firstK ns f (k + 1)
def numOf (ns : List Nat) : Int := if firstK ns 18 0 < 18 then (firstK ns 18 0 : Int) + 1 else -1
theorem firstK_step {ns : List Nat} {k : Nat} (hk : k < 18) : firstK ns (18 - k) k = if k + 1 ∈ ns then k else firstK ns (18 - (k + 1)) (k + 1) := by
 rw [show 18 - k = (18 - (k + 1)) + 1 by omega]; rfl
set_option maxHeartbeats 800000 in
set_option maxRecDepth 100000 in
theorem number_some (Ad : Nat → Addr) (v : Value) (ls : List (List ByteArray × Nat)) (d : Nat) (w : World) (hE : Env w Ad) (hT : Tr Ad w.heap.size w d v ls) (hd : d ≤ 1000) (hv : ∃ t p, v = .iface t p) :
  Calls Tryz.prog 34 #[v] w fun e w' => e = .returned (.int .i64 (numOf (ls.map Prod.snd))) ∧ Below w.heap.size w w' := by
 obtain ⟨t, p, rfl⟩ := hv
 have HE := hid hE
 have HT := hid hT
 clear hE hT
 go_enter Tryz.func34, Tryz.ntmps34
 go_wp2_with fail
 go_loopw [3] (fun i wr => ∃ k : Nat, k ≤ 18 ∧ i = .int .i64 ((k : Int) + 1) ∧ firstK (ls.map Prod.snd) 18 0 = firstK (ls.map Prod.snd) (18 - k) k ∧ Below w.heap.size w wr) (fun i _ => 20 - (intOf i).toNat)
 case atStart => exact ⟨0, by omega, rfl, rfl, Below.refl _ _⟩
 case round =>
  obtain ⟨k, hk, rfl, hf, hb⟩ := hrel
  have HF := hid hf
  have HB := hid hb
  clear hf hb
  by_cases hlt : k < 18
  ·have hki : (k : Int) < 18 := by omega
   have C := hid (has_any Ad (.iface t p) ls d wr (HE.out.later HB.out) (Tr.later HT.out HB.out) hd k hlt)
   have ST := hid (firstK_step (ns := ls.map Prod.snd) hlt)
   by_cases hm : k + 1 ∈ ls.map Prod.snd
   ·rw [decide_eq_true hm] at C
    have R : Hid (numOf (ls.map Prod.snd) = (k : Int) + 1) := by
     show numOf _ = _
     unfold numOf
     rw [HF.out, ST.out, if_pos hm, if_pos hlt]
    clear hm ST
    go_wp2_with fail
    refine C.out.mono ?_
    rintro e w3 ⟨rfl, hb3⟩
    have B3 := hid (HB.out.trans (hb3.mono HB.out.size))
    clear hb3
    go_wp2_with fail
    go_ret
    exact ⟨by rw [R.out]; rfl, B3.out⟩
   ·rw [decide_eq_false hm] at C
    have R : Hid (firstK (ls.map Prod.snd) 18 0 = firstK (ls.map Prod.snd) (18 - (k + 1)) (k + 1)) := by
     show firstK _ _ _ = _
     rw [HF.out, ST.out, if_neg hm]
    clear hm ST
    go_wp2_with fail
    refine C.out.mono ?_
    rintro e w3 ⟨rfl, hb3⟩
    have B3 := hid (HB.out.trans (hb3.mono HB.out.size))
    clear hb3
    go_wp2_with fail
    go_roundw
    case rel => exact ⟨k + 1, by omega, by congr 1, R.out, B3.out⟩
    case measure => simp [intOf]; omega
  ·have hki : ¬ (k : Int) < 18 := by omega
   have R : Hid (numOf (ls.map Prod.snd) = -1) := by
    show numOf _ = _
    unfold numOf
    rw [HF.out, show 18 - k = 0 by omega]
    show (if k < 18 then (k : Int) + 1 else -1) = -1
    rw [if_neg hlt]
   go_wp2_with fail
   go_ret
   exact ⟨by rw [R.out]; rfl, HB.out⟩
set_option maxHeartbeats 800000 in
theorem number_nil (w : World) : Calls Tryz.prog 34 #[.nilIface] w fun e w' => e = .returned (.int .i64 0) ∧ w' = w := by
 go_enter Tryz.func34, Tryz.ntmps34
 go_wp2
 go_ret
 exact ⟨rfl, rfl⟩
end Go.Proofs.YtnlcbheidiigaaaGreatDoor
namespace Go.Proofs.YtnlcbheidiigaaaGreatDoor
open Go.RowKit
variable {P : Program} {ops : Array Oper} {Q : Exit → Act → World → Prop} {l n : Nat}
theorem upon_round {o : Oper} {a : Act} {K : Act → World → Prop} : ∀ {r : Result Next}, o.upon P a K Q r → o.uponIn (Fence.wide.inRound l) n P a K Q r
 | .ok (.value _) _, h => h
 | .ok .skip _, h => h
 | .ok (.defer _) _, h => h
 | .ok (.enter _ _) _, h => ⟨fun e => (by cases e), CallsIn.inRound l (callsIn_wide.2 h)⟩
 | .ok (.row _ _) _, h => ⟨fun e => (by cases e), fun c cs _ => let ⟨v, w', r, s⟩ := h c cs; ⟨v, w', r, stepsIn_wide.2 s⟩⟩
 | .ok (.round _ _ _ _ _) _, h => h.elim
 | .halt (.panic _) _, h => h
theorem wpIn_round {o : Oper} {a : Act} {w : World} {K : Act → World → Prop} (hd : ∀ c, o.op ≠ .defer c) (h : o.wp P a w K Q) : o.wpIn (Fence.wide.inRound l) n P a w K Q := by
 refine ⟨fun _ _ => trivial, ?_⟩
 rw [Oper.semAt_plain _ _ _ hd]
 exact upon_round h
def noDefer (ops : Array Oper) : Bool := ops.all fun o => match o.op with | .defer _ => false | _ => true
theorem noDefer_at (h : noDefer ops = true) {i : Nat} {o : Oper} (hi : ops[i]? = some o) : ∀ c, o.op ≠ .defer c := by
 intro c e
 obtain ⟨hlt, rfl⟩ := Array.getElem?_eq_some_iff.1 hi
 have := Array.all_eq_true.1 h i hlt
 rw [e] at this
 cases this
theorem any_round {md : Region.Mode} (hd : noDefer ops = true) (hq : ¬ LetsOut Q) : ∀ (fuel : Nat) (listed : Array Bool) (a : Act) (w : World), wpAny P md ops Q fuel listed a w → wpAnyIn (Fence.wide.inRound l) n P md ops Q fuel listed a w
 | 0, _, _, _, h => h
 | fuel + 1, listed, a, w, h => by
  refine ⟨h.1, fun i hi => ?_⟩
  have h1 := wpOp_mono (K' := wpAnyIn (Fence.wide.inRound l) n P md ops Q fuel (listed.setIfInBounds i true)) (fun a' w' => any_round hd hq fuel _ a' w') (h.2 i hi)
  unfold wpOp at h1
  unfold wpOpIn
  cases ho : ops[i]? with
  | none => rw [ho] at h1; exact h1
  | some o =>
   rw [ho] at h1
   simp only at h1 ⊢
   by_cases hw : Region.wanted o (yielded ops a.tmps) = true
   ·rw [if_pos hw] at h1 ⊢
    exact wpIn_round (noDefer_at hd ho) (h1.resolve_right fun h => hq h.2)
   ·rw [if_neg hw] at h1 ⊢
    exact ⟨fun _ _ => trivial, h1⟩
theorem region_round0 {id : Nat} {a : Act} {w : World} (hm : P.follows .mixedOrders = true) (hd : noDefer ops = true) (hq : ¬ LetsOut Q)
  (h : wpAny P .any ops Q ops.size (Array.replicate ops.size false) a w.drew) : (Code.region id ops true).wpIn (Fence.wide.inRound l) n P Q a w :=
 wpIn_region_any hm (any_round hd hq _ _ _ _ h)
end Go.Proofs.YtnlcbheidiigaaaGreatDoor
namespace Go.Proofs
open Go.Shelf
def Tryz.lays156_ren : Go.Shelf.Ren := ⟨fun | 156 => 62 | 165 => 109 | 166 => 110 | 169 => 111 | 240 => 134 | 241 => 135 | 276 => 148 | 277 => 149 | n => n, fun | 31 => 130 | 9 => 9 | 3 => 3 | 4 => 4 | 0 => 0 | 20 => 20 | 72 => 203 | 76 => 205 | 70 => 200 | 37 => 201 | 75 => 31 | 127 => 238 | 164 => 246 | 5 => 5 | 80 => 207 | n => n, fun | n => n⟩
theorem Tryz.lays156 : Go.Proofs.Lays.n156 Tryz.prog Tryz.lays156_ren := {
 mixed := by kernel_rfl
 f156 := Tryz.func62.trans (congrArg some (by kernel_rfl))
 f165 := Tryz.func109.trans (congrArg some (by kernel_rfl))
 f166 := Tryz.func110.trans (congrArg some (by kernel_rfl))
 f169 := Tryz.func111.trans (congrArg some (by kernel_rfl))
 f240 := Tryz.func134.trans (congrArg some (by kernel_rfl))
 f241 := Tryz.func135.trans (congrArg some (by kernel_rfl))
 f276 := Tryz.func148.trans (congrArg some (by kernel_rfl))
 f277 := Tryz.func149.trans (congrArg some (by kernel_rfl))
 t0 := Tryz.underlying0
 a0 := Tryz.isAgg0
 z0 := Tryz.sizeOf0
 v0 := Tryz.zeroValue0
 t3 := Tryz.underlying3
 a3 := Tryz.isAgg3
 z3 := Tryz.sizeOf3
 v3 := Tryz.zeroValue3
 t4 := Tryz.underlying4
 a4 := Tryz.isAgg4
 z4 := Tryz.sizeOf4
 v4 := Tryz.zeroValue4
 t9 := Tryz.underlying9
 a9 := Tryz.isAgg9
 z9 := Tryz.sizeOf9
 v9 := Tryz.zeroValue9
 t20 := Tryz.underlying20
 a20 := Tryz.isAgg20
 z20 := Tryz.sizeOf20
 v20 := Tryz.zeroValue20
 t31 := Tryz.underlying130
 a31 := Tryz.isAgg130
 z31 := Tryz.sizeOf130
 v31 := Tryz.zeroValue130
 t37 := Tryz.underlying201
 a37 := Tryz.isAgg201
 z37 := Tryz.sizeOf201
 v37 := Tryz.zeroValue201
 t70 := Tryz.underlying200
 a70 := Tryz.isAgg200
 z70 := Tryz.sizeOf200
 v70 := Tryz.zeroValue200
 t72 := Tryz.underlying203
 a72 := Tryz.isAgg203
 z72 := Tryz.sizeOf203
 v72 := Tryz.zeroValue203
 t75 := Tryz.underlying31
 a75 := Tryz.isAgg31
 z75 := Tryz.sizeOf31
 v75 := Tryz.zeroValue31
 t76 := Tryz.underlying205
 a76 := Tryz.isAgg205
 z76 := Tryz.sizeOf205
 v76 := Tryz.zeroValue205
 t127 := Tryz.underlying238
 a127 := Tryz.isAgg238
 z127 := Tryz.sizeOf238
 v127 := Tryz.zeroValue238
 t164 := Tryz.underlying246
 a164 := Tryz.isAgg246
 z164 := Tryz.sizeOf246
 v164 := Tryz.zeroValue246 }
theorem Tryz.Builder_Extra_156 : Builder.Extra Tryz.prog Tryz.lays156_ren := {
 sizeBuilder := by kernel_rfl
 liesBuilder := by kernel_rfl
 t5 := Tryz.underlying5
 a5 := Tryz.isAgg5
 z5 := Tryz.sizeOf5
 v5 := Tryz.zeroValue5
 infoByte := by kernel_rfl
 cellsByte := by kernel_rfl
 sizeByte := by kernel_rfl
 neB5 := by decide }
open Go.RowKit in
theorem Tryz.strings_Join_none (a : Option Addr) (c : Nat) (sep : ByteArray) (w : World) :
  Calls Tryz.prog 62 #[.slice a 0 c, .string sep] w fun e w' => e = .returned (.string ⟨#[]⟩) ∧ w' = w := Any.strings_Join_none Tryz.lays156 Tryz.Builder_Extra_156 a c sep w
open Go.RowKit in
theorem Tryz.strings_Join (bk o c : Nat) (xs : List ByteArray) (sep : ByteArray) (w : World) (hcells : ∀ (j : Nat) x, xs[j]? = some x → w.cell? ⟨bk, o + j, none⟩ = some (.string x)) (hbk : bk < w.heap.size) (hN : xs.length ≤ 140737488355328) (hcap : xs.length ≤ c) (hlen : (Lib.join (xs.map (·.data.toList)) sep.data.toList).length ≤ 140737488355328) :
  Calls Tryz.prog 62 #[.slice (some ⟨bk, o, none⟩) xs.length c, .string sep] w fun e w' => e = .returned (.string ⟨(Lib.join (xs.map (·.data.toList)) sep.data.toList).toArray⟩) ∧ Below w.heap.size w w' := Any.strings_Join Tryz.lays156 Tryz.Builder_Extra_156 bk o c xs sep w hcells hbk hN hcap hlen
def Tryz.lays171_ren : Go.Shelf.Ren := ⟨fun | 171 => 113 | 243 => 137 | 246 => 150 | 283 => 161 | 284 => 162 | 285 => 163 | 286 => 164 | 129 => 160 | 317 => 170 | 318 => 171 | 319 => 172 | 320 => 173 | 337 => 175 | 338 => 176 | n => n, fun | 3 => 3 | 9 => 9 | 2 => 2 | 4 => 4 | 171 => 259 | 0 => 0 | 53 => 258 | 37 => 201 | 5 => 5 | 173 => 261 | 212 => 271 | 51 => 48 | 20 => 20 | 213 => 272 | 46 => 90 | 232 => 276 | 233 => 277 | n => n, fun | 17 => 19 | 18 => 20 | 19 => 21 | n => n⟩
theorem Tryz.lays171 : Go.Proofs.Lays.n171 Tryz.prog Tryz.lays171_ren := {
 mixed := by kernel_rfl
 f129 := Tryz.func160.trans (congrArg some (by kernel_rfl))
 f171 := Tryz.func113.trans (congrArg some (by kernel_rfl))
 f243 := Tryz.func137.trans (congrArg some (by kernel_rfl))
 f246 := Tryz.func150.trans (congrArg some (by kernel_rfl))
 f283 := Tryz.func161.trans (congrArg some (by kernel_rfl))
 f284 := Tryz.func162.trans (congrArg some (by kernel_rfl))
 f285 := Tryz.func163.trans (congrArg some (by kernel_rfl))
 f286 := Tryz.func164.trans (congrArg some (by kernel_rfl))
 f317 := Tryz.func170.trans (congrArg some (by kernel_rfl))
 f318 := Tryz.func171.trans (congrArg some (by kernel_rfl))
 f319 := Tryz.func172.trans (congrArg some (by kernel_rfl))
 f320 := Tryz.func173.trans (congrArg some (by kernel_rfl))
 f337 := Tryz.func175.trans (congrArg some (by kernel_rfl))
 f338 := Tryz.func176.trans (congrArg some (by kernel_rfl))
 t0 := Tryz.underlying0
 a0 := Tryz.isAgg0
 z0 := Tryz.sizeOf0
 v0 := Tryz.zeroValue0
 t2 := Tryz.underlying2
 a2 := Tryz.isAgg2
 z2 := Tryz.sizeOf2
 v2 := Tryz.zeroValue2
 t3 := Tryz.underlying3
 a3 := Tryz.isAgg3
 z3 := Tryz.sizeOf3
 v3 := Tryz.zeroValue3
 t4 := Tryz.underlying4
 a4 := Tryz.isAgg4
 z4 := Tryz.sizeOf4
 v4 := Tryz.zeroValue4
 t5 := Tryz.underlying5
 a5 := Tryz.isAgg5
 z5 := Tryz.sizeOf5
 v5 := Tryz.zeroValue5
 t9 := Tryz.underlying9
 a9 := Tryz.isAgg9
 z9 := Tryz.sizeOf9
 v9 := Tryz.zeroValue9
 t20 := Tryz.underlying20
 a20 := Tryz.isAgg20
 z20 := Tryz.sizeOf20
 v20 := Tryz.zeroValue20
 t37 := Tryz.underlying201
 a37 := Tryz.isAgg201
 z37 := Tryz.sizeOf201
 v37 := Tryz.zeroValue201
 t46 := Tryz.underlying90
 a46 := Tryz.isAgg90
 z46 := Tryz.sizeOf90
 v46 := Tryz.zeroValue90
 t51 := Tryz.underlying48
 a51 := Tryz.isAgg48
 z51 := Tryz.sizeOf48
 v51 := Tryz.zeroValue48
 t53 := Tryz.underlying258
 a53 := Tryz.isAgg258
 z53 := Tryz.sizeOf258
 v53 := Tryz.zeroValue258
 t171 := Tryz.underlying259
 a171 := Tryz.isAgg259
 z171 := Tryz.sizeOf259
 v171 := Tryz.zeroValue259
 t173 := Tryz.underlying261
 a173 := Tryz.isAgg261
 z173 := Tryz.sizeOf261
 v173 := Tryz.zeroValue261
 t212 := Tryz.underlying271
 a212 := Tryz.isAgg271
 z212 := Tryz.sizeOf271
 v212 := Tryz.zeroValue271
 t213 := Tryz.underlying272
 a213 := Tryz.isAgg272
 z213 := Tryz.sizeOf272
 t232 := Tryz.underlying276
 a232 := Tryz.isAgg276
 z232 := Tryz.sizeOf276
 v232 := Tryz.zeroValue276
 t233 := Tryz.underlying277
 a233 := Tryz.isAgg277
 z233 := Tryz.sizeOf277
 v233 := Tryz.zeroValue277
 g17 := by kernel_rfl
 g18 := by kernel_rfl
 g19 := by kernel_rfl }
open Go.RowKit Go.Sort Go.Lib in
theorem Tryz.strconv_Itoa_small (i : Nat) (hi : i < 100) (w : World) :
  Calls Tryz.prog 113 #[.int .i64 i] w fun e w' => e = .returned (.string ⟨(Lib.decDigits i).toArray⟩) ∧ w' = w := Any.strconv_Itoa_small Tryz.lays171 i hi w
end Go.Proofs
namespace Go.Proofs.YtnlcbheidiigaaaGreatDoor
open Go.RowKit Go.Shelf
attribute [local go_sem] Oper.semAt_some
def joinB (ws : List ByteArray) : ByteArray := ⟨(Lib.join (ws.map (·.data.toList)) [47]).toArray⟩
def leafCells (ls : List (List ByteArray × Nat)) : List Value := ls.flatMap fun p => [.string (joinB p.1), .int .i64 (p.2 : Int)]
theorem numOf_one : ∀ k, k < 18 → numOf [k + 1] = (k : Int) + 1 := by decide
theorem join_any (B : Nat) (tv : Value) (ts : List ByteArray) (w : World) (h : Trail B w tv ts) (hl : ts.length ≤ 1000) (hs : (joinB ts).size ≤ 100000) :
  Calls Tryz.prog 62 #[tv, .string ⟨#[47]⟩] w fun e w' => e = .returned (.string (joinB ts)) ∧ Below w.heap.size w w' := by
 rcases h.2 with ⟨rfl, h0⟩ | ⟨g, cap, cur, rfl, hb, hblk, hnc, hcm, hcs, htk⟩
 ·have : ts = [] := List.eq_nil_of_length_eq_zero h0
  subst this
  refine (Tryz.strings_Join_none none 0 ⟨#[47]⟩ w).mono ?_
  rintro e w' ⟨rfl, rfl⟩
  exact ⟨rfl, Below.refl _ _⟩
 ·refine Tryz.strings_Join g 0 cap ts ⟨#[47]⟩ w (fun j x hx => ?_) (Array.getElem?_eq_some_iff.1 hblk).1 (by omega) hnc ?_
  ·have hj : j < ts.length := (List.getElem?_eq_some_iff.1 hx).1
   rw [Nat.zero_add, World.ownsRow.cellAt h j (by omega)]
   simp [hx, sv]
  ·have : (Lib.join (ts.map (·.data.toList)) [47]).length = (joinB ts).size := by simp [joinB, ByteArray.size]
   show (Lib.join (ts.map (·.data.toList)) [47]).length ≤ _
   omega
theorem Tryz.infoLeaf : (Tryz.prog.info? 132).map (fun i => (i.zero, i.size, i.bytes)) = some (some (.agg #[.string ⟨#[]⟩, .int .i64 0]), 2, 24) := by kernel_rfl
theorem own_far {w w' : World} {B n z : Nat} {e : TypeId} {v : Value} {xs : List Value} (h : w.ownsRow B e z v n xs) (hb : Below w.heap.size w w') : w'.ownsRow B e z v n xs := by
 refine ⟨h.1, ?_⟩
 rcases h.2 with h1 | ⟨g, cap, cur, h1, h2, h3, h4⟩
 ·exact .inl h1
 ·exact .inr ⟨g, cap, cur, h1, h2, (hb.block g (Array.getElem?_eq_some_iff.1 h3).1).trans h3, h4⟩
def LvI (n₀ : Nat) (w : World) (b : Nat) (s : List Lf) (W : World) : Prop :=
 ∃ lv, (W.heap[b]? = some (.cells #[lv] 39 (0, 0)) ∧ W.ownsRow n₀ 132 2 lv s.length (leafCells (s.map Lf.pair))) ∧ Below n₀ w W
theorem LvI.turn {n₀ : Nat} {w : World} {b B : Nat} (hb : b < B) (hw : n₀ ≤ B) (h0 : n₀ ≤ w.heap.size) (s : List Lf) (A A' : World) (h : LvI n₀ w b s A) (h1 : Turn (fun o => isRow o ∨ Odd o) B A A') : LvI n₀ w b s A' := by
 obtain ⟨lv, ⟨h2, h4⟩, h6⟩ := h
 refine ⟨lv, ⟨h1.block b _ h2 (.inl hb), ?_⟩, h6.trans ((h1.mono (fun _ h => h) hw).below (Nat.le_trans h0 h6.size))⟩
 refine ⟨h4.1, ?_⟩
 rcases h4.2 with h | ⟨g, cap, cur, e1, e2, e3, e4⟩
 ·exact .inl h
 ·refine .inr ⟨g, cap, cur, e1, e2, h1.block g _ e3 (.inr ?_), e4⟩
  rintro (⟨c, e⟩ | e) <;> cases e
theorem own_turn {P : Obj → Prop} {N : Nat} {w w' : World} {B n z : Nat} {e : TypeId} {v : Value} {xs : List Value} (h : w.ownsRow B e z v n xs) (ht : Turn P N w w') (hP : ∀ cur, ¬ P (.cells cur e (0, 0))) : w'.ownsRow B e z v n xs := by
 refine ⟨h.1, ?_⟩
 rcases h.2 with h1 | ⟨g, cap, cur, h1, h2, h3, h4⟩
 ·exact .inl h1
 ·exact .inr ⟨g, cap, cur, h1, h2, ht.block g _ h3 (.inr (hP cur)), h4⟩
theorem own_at {w : World} {B n z : Nat} {e : TypeId} {v : Value} {xs : List Value} (h : w.ownsRow B e z v n xs) {g : Nat} (hg : v.ownBlock = some g) : B ≤ g ∧ ∃ cur, w.heap[g]? = some (.cells cur e (0, 0)) := by
 rcases h.2 with ⟨h1, _⟩ | ⟨g', cap, cur, h1, h2, h3, h4⟩
 ·rw [h1] at hg; cases hg
 ·rw [h1] at hg
  simp [Value.ownBlock] at hg
  subst hg
  exact ⟨h2, cur, h3⟩
theorem lv_next {n₀ b g cap : Nat} {wl W w3 w4 : World} {lv : Value} {pre : List Lf} {x : Lf} (hn : n₀ ≤ b) (h0 : n₀ ≤ wl.heap.size) (hb : W.heap[b]? = some (.cells #[lv] 39 (0, 0))) (ho : W.ownsRow n₀ 132 2 lv pre.length (leafCells (pre.map Lf.pair))) (hB : Below n₀ wl W) (b3 : Below W.heap.size W w3)
  (o4 : w4.ownsRow n₀ 132 2 (.slice (some ⟨g, 0, none⟩) (pre.length + 1) cap) (pre.length + 1) (leafCells (pre.map Lf.pair) ++ [.string (joinB x.ts), .int .i64 (x.k : Int)])) (g4 : w3.grownBy w4 lv.ownBlock) (at4 : lv.ownBlock = some g ∨ g = w3.heap.size) :
  KeepsOthers W (w4.setCell ⟨b, 0, none⟩ (.slice (some ⟨g, 0, none⟩) (pre.length + 1) cap)) ∧ Kp n₀ W (w4.setCell ⟨b, 0, none⟩ (.slice (some ⟨g, 0, none⟩) (pre.length + 1) cap)) ∧ LvI n₀ wl b (pre ++ [x]) (w4.setCell ⟨b, 0, none⟩ (.slice (some ⟨g, 0, none⟩) (pre.length + 1) cap)) := by
 have hbW : b < W.heap.size := (Array.getElem?_eq_some_iff.1 hb).1
 have hne : ∀ g', lv.ownBlock = some g' → g' ≠ b := by
  rintro g' hg' rfl
  obtain ⟨-, cur, hc⟩ := own_at ho hg'
  rw [hb] at hc
  cases hc
 have hb4 : w4.heap[b]? = some (.cells #[lv] 39 (0, 0)) := by
  rw [g4.block b (Nat.lt_of_lt_of_le hbW b3.size) (fun e => hne b e.symm rfl), b3.block b hbW]; exact hb
 have keep : ∀ (k : Nat) (o : Obj), W.heap[k]? = some o → k ≠ b → some k ≠ lv.ownBlock → (w4.setCell ⟨b, 0, none⟩ (.slice (some ⟨g, 0, none⟩) (pre.length + 1) cap)).heap[k]? = some o := by
  intro k o hk h1 h2
  have hkW : k < W.heap.size := (Array.getElem?_eq_some_iff.1 hk).1
  rw [Below.heap_setCell _ _ _ _ h1, g4.block k (Nat.lt_of_lt_of_le hkW b3.size) h2, b3.block k hkW]; exact hk
 have hsz : W.heap.size ≤ (w4.setCell ⟨b, 0, none⟩ (.slice (some ⟨g, 0, none⟩) (pre.length + 1) cap)).heap.size := by simp; exact Nat.le_trans b3.size g4.size
 have hT : Kp n₀ W (w4.setCell ⟨b, 0, none⟩ (.slice (some ⟨g, 0, none⟩) (pre.length + 1) cap)) := by
  refine ⟨g4.os.trans b3.os, g4.tape.trans b3.tape, g4.output.trans b3.output, hsz, fun k o hk hp => ?_⟩
  refine keep k o hk ?_ ?_
  ·rintro rfl
   rw [hb] at hk
   cases hk
   rcases hp with hp | hp
   ·omega
   ·exact hp (by rintro ⟨c, e | e⟩ <;> cases e)
  ·intro e
   obtain ⟨h1, cur, hc⟩ := own_at ho e.symm
   rw [hk] at hc
   cases hc
   rcases hp with hp | hp
   ·omega
   ·exact hp (by rintro ⟨c, e | e⟩ <;> cases e)
 refine ⟨⟨hsz, fun k o hk hcell => keep k o hk ?_ ?_⟩, hT, .slice (some ⟨g, 0, none⟩) (pre.length + 1) cap, ⟨one_setCell hb4, ?_⟩, hB.trans (Turn.below hT (Nat.le_trans h0 hB.size))⟩
 ·rintro rfl
  rw [hb] at hk
  cases hk
  cases hcell
 ·intro e
  obtain ⟨h1, cur, hc⟩ := own_at ho e.symm
  rw [hk] at hc
  cases hc
  cases hcell
 ·have hgb : g ≠ b := by
   rcases at4 with h | h
   ·exact hne g h
   ·have := b3.size; omega
  have h5 := ownsRow_setCell_other o4 (a := ⟨b, 0, none⟩) (fun e => hgb (by simpa [Value.ownBlock] using e)) (.slice (some ⟨g, 0, none⟩) (pre.length + 1) cap)
  have e1 : (pre ++ [x]).length = pre.length + 1 := by simp
  have e2 : leafCells ((pre ++ [x]).map Lf.pair) = leafCells (pre.map Lf.pair) ++ [.string (joinB x.ts), .int .i64 (x.k : Int)] := by simp [leafCells, Lf.pair]
  rw [e1, e2]
  exact h5
theorem leaf_number (Ad : Nat → Addr) (k : Nat) (w : World) (hE : Env w Ad) (h1 : 1 ≤ k) (h2 : k ≤ 18) :
  Calls Tryz.prog 34 #[.iface 278 (.pointer (some (Ad k)))] w fun e w' => e = .returned (.int .i64 (k : Int)) ∧ Below w.heap.size w w' := by
 have h := number_some Ad (.iface 278 (.pointer (some (Ad k)))) [([], k)] 0 w hE (.leaf 0 k ⟨h1, h2⟩) (by omega) ⟨_, _, rfl⟩
 obtain ⟨j, rfl⟩ : ∃ j, k = j + 1 := ⟨k - 1, by omega⟩
 rw [show numOf ([([], j + 1)].map Prod.snd) = ((j + 1 : Nat) : Int) by show numOf [j + 1] = _; rw [numOf_one j (by omega)]; rfl] at h
 exact h
set_option maxHeartbeats 2000000 in
set_option maxRecDepth 100000 in
theorem leaves_any (Ad : Nat → Addr) (v : Value) (ls : List (List ByteArray × Nat)) (d : Nat) (w : World) (hE : Env w Ad) (hT : Tr Ad w.heap.size w d v ls) (hd : d ≤ 1000) (hs : ∀ p ∈ ls, (joinB p.1).size ≤ 100000 ∧ p.1.length ≤ 1000) (hl : ls.length ≤ 1000) :
  Calls Tryz.prog 14 #[v] w fun e w' => ∃ lv, e = .returned lv ∧ w'.ownsRow w.heap.size 132 2 lv ls.length (leafCells ls) ∧ Below w.heap.size w w' := by
 have HV := hid hT.isIface
 have HT := hid hT
 have HE := hid hE
 clear hT hE
 refine callsIn_wide (n := 5) |>.1 ?_
 refine callsIn_of_wp_marks Tryz.func14 rfl trivial ?_ rfl
 simp only [Tryz.ntmps14, List.size_toArray, List.length_cons, List.length_nil, Nat.reduceAdd, Nat.reduceSub, Array.replicate_succ, Array.replicate_zero, List.push_toArray, List.append_toArray, List.nil_append, List.cons_append]
 gi_wp2_with fail
 refine ⟨trivial, ?_⟩
 refine (callsIn_wide.2 (parts_any v HV.out _)).mono ?_
 rintro e w' ⟨rfl, rfl⟩
 gi_wp2_with fail
 obtain ⟨wl, hwl⟩ : ∃ wl, wl = (w.alloc (.cells #[.slice none 0 0] 39)).alloc (.cells #[v] 31) := ⟨_, rfl⟩
 rw [← hwl]
 have hsz : wl.heap.size = w.heap.size + 1 + 1 := by rw [hwl]; simp
 have hb0 : Below w.heap.size w wl := by rw [hwl]; exact ((Below.refl _ _).alloc (Nat.le_refl _) _).alloc (by simp) _
 have hb1 : Below (w.heap.size + 1) (w.alloc (.cells #[.slice none 0 0] 39)) wl := by rw [hwl]; exact (Below.refl _ _).alloc (by simp) _
 have hblk : wl.heap[w.heap.size]? = some (.cells #[.slice none 0 0] 39 (0, 0)) := (hb1.block w.heap.size (by omega)).trans (heap_alloc_new w _)
 have c2 : wl.cell? ⟨w.heap.size + 1, 0, none⟩ = some v := by
  rw [hwl]
  have := new_cell (w.alloc (.cells #[.slice none 0 0] 39)) v 31
  rw [World.size_alloc] at this
  exact this
 refine range_law (P := Tryz.prog) rfl (by decide) (gf := 107) (lb := #[.pointer (some ⟨w.heap.size + 1, 0, none⟩)]) rfl trivial (enters_of Tryz.func107 (by kernel_rfl) rfl)
  (encs Ad) (fun _ => rfl) isRow isRow_cells (Handed wl.heap.size ls) (LvI w.heap.size wl w.heap.size) (fun _ _ _ => False) (Kp w.heap.size)
  (fun xs => xs.map Lf.pair = ls) (fun xs => xs.map Lf.pair <+: ls)
  ?hR (LvI.turn (by omega) (by omega) (by omega)) (fun _ _ _ _ h _ => h) ⟨.slice none 0 0, ⟨hblk, World.ownsRow_nil _ _ _ _⟩, Below.refl _ _⟩ w.heap.size ?hBi (fun _ _ _ h => h.elim) ?hKt ?hKb
  (parts_seq Ad w.heap.size (w.heap.size + 1) d w wl v ls _ _ HT.out hd hb0 (by omega) (by omega) c2)
  (fun x => { tmps := #[v, undef, .slice none 0 0, .pointer (some ⟨w.heap.size, 0, none⟩), x.tv, .iface 278 (.pointer (some (Ad x.k))), v, .func (.func 107) #[] #[.pointer (some ⟨w.heap.size + 1, 0, none⟩)], x.tv, .iface 278 (.pointer (some (Ad x.k))), undef, undef, undef, undef, undef, undef, undef, undef, undef], defers := [] }) ?assign ?body ?done ?stop
 case hR =>
  rintro s x A B ⟨h1, h2⟩ ht
  exact ⟨own_later h1 fun g cur _ hg => ht.block g _ hg (.inr fun h => by cases h), h2⟩
 case hBi => exact fun s A ⟨_, _, h⟩ => h
 case hKt => exact fun h1 h2 => h1.trans h2
 case hKb => exact fun h => h.mono odd_kept (by omega)
 case assign =>
  intro l x W K hK
  simp only [encs]
  gi_wp2
  exact hK
 case body =>
  rintro l pre x W hlt ⟨lv, ⟨hblkW, ho⟩, hB⟩ ⟨htr, hx1, hx2, hG⟩
  have HG := hid (hs x.pair (hG.subset (by simp)))
  have hpl : pre.length < ls.length := by have := hG.length_le; simp at this; omega
  have HTR := hid htr
  have HO := hid ho
  have EW := hid (HE.out.later (hb0.trans hB))
  have HB := hid hB
  have HBW := hid hblkW
  have hbW : w.heap.size < W.heap.size := (Array.getElem?_eq_some_iff.1 hblkW).1
  have hc := cell_of_one hblkW
  have hf := free_of_one hblkW
  clear hs hG htr ho hB hblkW
  gi_wp2_with fail
  refine region_round0 (by kernel_rfl) (by kernel_rfl) (by rintro ⟨a, w, h⟩; exact h) ?_
  refine wpAny_take (i := 1) (v := x.tv) rfl (by kernel_rfl) (by kernel_rfl) (by kernel_rfl) (fun _ _ _ h => h) (.inl ⟨by rfl, fun W' => ?_⟩) ?_
  ·go_simp
  refine wpAny_take (i := 3) (v := .iface 278 (.pointer (some (Ad x.k)))) rfl (by kernel_rfl) (by kernel_rfl) (by kernel_rfl) (fun _ _ _ h => h) (.inl ⟨by rfl, fun W' => ?_⟩) ?_
  ·go_simp
  refine wpAny_ready (rs := [0, 2]) (by kernel_rfl) (by simp) ?_
  refine AllReady.cons rfl (fun K hK => ?_) (AllReady.cons rfl (fun K hK => ?_) AllReady.nil)
  ·go_simp
   refine hK _ _ ?_
   clear hK K
   refine wpAny_ready (rs := [2]) (by kernel_rfl) (by simp) ?_
   refine AllReady.cons rfl (fun K hK => ?_) AllReady.nil
   go_simp
   refine (join_any wl.heap.size x.tv x.ts W.drew HTR.out HG.out.2 HG.out.1).mono ?_
   rintro e w1 ⟨rfl, hb1⟩
   have B1 := hid (show Below W.heap.size W w1 from (Below.refl W.heap.size W).drew.trans hb1)
   have c1 : w1.cell? ⟨w.heap.size, 0, none⟩ = some lv := (B1.out.cell (p := ⟨w.heap.size, 0, none⟩) hbW).trans hc
   refine hK _ _ ?_
   clear hK K hb1
   refine wpAny_ready (rs := [4]) (by kernel_rfl) (by simp) ?_
   refine AllReady.cons rfl (fun K hK => ?_) AllReady.nil
   go_simp
   refine (leaf_number Ad x.k w1 (EW.out.later B1.out) hx1 hx2).mono ?_
   rintro e w2 ⟨rfl, hb2⟩
   have B2 := hid (show Below W.heap.size W w2 from B1.out.trans (hb2.mono B1.out.size))
   have c2 : w2.cell? ⟨w.heap.size, 0, none⟩ = some lv := (B2.out.cell (p := ⟨w.heap.size, 0, none⟩) hbW).trans hc
   refine hK _ _ ?_
   clear hK K hb2
   refine wpAny_take (i := 5) (v := .agg #[.string (joinB x.ts), .int .i64 (x.k : Int)]) rfl (by kernel_rfl) (by kernel_rfl) (by kernel_rfl) (fun _ _ _ h => h) (.inl ⟨by rfl, fun W' => ?_⟩) ?_
   ·go_simp
   refine wpAny_ready (rs := [6]) (by kernel_rfl) (by simp) ?_
   refine AllReady.cons rfl (fun K hK => ?_) AllReady.nil
   go_simp
   refine hK _ _ ?_
   clear hK K
   have B3 := hid (show Below W.heap.size W (w2.alloc (.cells #[.string (joinB x.ts), .int .i64 (x.k : Int)] 132)) from B2.out.alloc B2.out.size _)
   have c3 : (w2.alloc (.cells #[.string (joinB x.ts), .int .i64 (x.k : Int)] 132)).cell? ⟨w.heap.size, 0, none⟩ = some lv := (B3.out.cell (p := ⟨w.heap.size, 0, none⟩) hbW).trans hc
   have f3 : (w2.alloc (.cells #[.string (joinB x.ts), .int .i64 (x.k : Int)] 132)).frozen? ⟨w.heap.size, 0, none⟩ = false := (B3.out.frozen (p := ⟨w.heap.size, 0, none⟩) hbW).trans hf
   have hnew : (w2.alloc (.cells #[.string (joinB x.ts), .int .i64 (x.k : Int)] 132)).heap[w2.heap.size]? = some (.cells #[.string (joinB x.ts), .int .i64 (x.k : Int)] 132 (0, 0)) := heap_alloc_new w2 _
   have hszw : W.heap.size ≤ (w2.alloc (.cells #[.string (joinB x.ts), .int .i64 (x.k : Int)] 132)).heap.size := B3.out.size
   generalize hw3 : w2.alloc (.cells #[.string (joinB x.ts), .int .i64 (x.k : Int)] 132) = w3 at *
   have O3 : Hid (w3.ownsRow w.heap.size 132 2 lv pre.length (leafCells (pre.map Lf.pair))) := own_far HO.out B3.out
   clear hw3
   refine wpAny_ready (rs := [7]) (by kernel_rfl) (by simp) ?_
   refine AllReady.cons rfl (fun K hK => ?_) AllReady.nil
   rw [if_pos (by rfl)]
   obtain ⟨i0, hi, hz0, hz1, hz2⟩ := info_parts Tryz.infoLeaf
   refine wp_append_lies w3 (.tmp 10) (.tmp 16) 39 rfl w.heap.size 132 i0 (.agg #[.string ⟨#[]⟩, .int .i64 0]) 2 24 Tryz.underlying39 hi hz0 hz1 hz2 rfl (by decide) lv pre.length _ rfl O3.out ⟨w2.heap.size, 0, none⟩ 1 1 [.string (joinB x.ts), .int .i64 (x.k : Int)] rfl rfl (World.news_of_block hnew) (by intro u hu; simp at hu; rcases hu with rfl | rfl <;> rfl) (by decide) (by simp [maxLen]; omega) (by omega) (by omega) w3.heap.size rfl ?_
   intro g cap w4 o4 g4 at4 lt4
   have N4 := hid (lv_next (x := x) (Nat.le_refl _) (by omega) HBW.out HO.out HB.out B3.out o4 g4 at4)
   have hne4 : some w.heap.size ≠ lv.ownBlock := by
    intro e
    obtain ⟨-, cur, hcur⟩ := own_at HO.out e.symm
    rw [HBW.out] at hcur
    cases hcur
   have c4 : w4.cell? ⟨w.heap.size, 0, none⟩ = some lv := (g4.cell_far ⟨w.heap.size, 0, none⟩ (by show w.heap.size < _; omega) hne4).trans c3
   have f4 : w4.frozen? ⟨w.heap.size, 0, none⟩ = false := (g4.frozen_far ⟨w.heap.size, 0, none⟩ (by show w.heap.size < _; omega) hne4).trans f3
   refine hK _ _ ?_
   clear hK K o4 g4 at4 hne4 c3 f3
   refine wpAny_ready (rs := [8]) (by kernel_rfl) (by simp) ?_
   refine AllReady.cons rfl (fun K hK => ?_) AllReady.nil
   go_simp
   refine hK _ _ ?_
   clear hK K
   refine wpAny_done (by kernel_rfl) ?_ _
   exact N4.out
  ·go_simp
   refine (join_any wl.heap.size x.tv x.ts W.drew HTR.out HG.out.2 HG.out.1).mono ?_
   rintro e w1 ⟨rfl, hb1⟩
   have B1 := hid (show Below W.heap.size W w1 from (Below.refl W.heap.size W).drew.trans hb1)
   have c1 : w1.cell? ⟨w.heap.size, 0, none⟩ = some lv := (B1.out.cell (p := ⟨w.heap.size, 0, none⟩) hbW).trans hc
   refine hK _ _ ?_
   clear hK K hb1
   refine wpAny_ready (rs := [0, 4]) (by kernel_rfl) (by simp) ?_
   refine AllReady.cons rfl (fun K hK => ?_) (AllReady.cons rfl (fun K hK => ?_) AllReady.nil)
   ·go_simp
    refine hK _ _ ?_
    clear hK K
    refine wpAny_ready (rs := [4]) (by kernel_rfl) (by simp) ?_
    refine AllReady.cons rfl (fun K hK => ?_) AllReady.nil
    go_simp
    refine (leaf_number Ad x.k w1 (EW.out.later B1.out) hx1 hx2).mono ?_
    rintro e w2 ⟨rfl, hb2⟩
    have B2 := hid (show Below W.heap.size W w2 from B1.out.trans (hb2.mono B1.out.size))
    have c2 : w2.cell? ⟨w.heap.size, 0, none⟩ = some lv := (B2.out.cell (p := ⟨w.heap.size, 0, none⟩) hbW).trans hc
    refine hK _ _ ?_
    clear hK K hb2
    refine wpAny_take (i := 5) (v := .agg #[.string (joinB x.ts), .int .i64 (x.k : Int)]) rfl (by kernel_rfl) (by kernel_rfl) (by kernel_rfl) (fun _ _ _ h => h) (.inl ⟨by rfl, fun W' => ?_⟩) ?_
    ·go_simp
    refine wpAny_ready (rs := [6]) (by kernel_rfl) (by simp) ?_
    refine AllReady.cons rfl (fun K hK => ?_) AllReady.nil
    go_simp
    refine hK _ _ ?_
    clear hK K
    have B3 := hid (show Below W.heap.size W (w2.alloc (.cells #[.string (joinB x.ts), .int .i64 (x.k : Int)] 132)) from B2.out.alloc B2.out.size _)
    have c3 : (w2.alloc (.cells #[.string (joinB x.ts), .int .i64 (x.k : Int)] 132)).cell? ⟨w.heap.size, 0, none⟩ = some lv := (B3.out.cell (p := ⟨w.heap.size, 0, none⟩) hbW).trans hc
    have f3 : (w2.alloc (.cells #[.string (joinB x.ts), .int .i64 (x.k : Int)] 132)).frozen? ⟨w.heap.size, 0, none⟩ = false := (B3.out.frozen (p := ⟨w.heap.size, 0, none⟩) hbW).trans hf
    have hnew : (w2.alloc (.cells #[.string (joinB x.ts), .int .i64 (x.k : Int)] 132)).heap[w2.heap.size]? = some (.cells #[.string (joinB x.ts), .int .i64 (x.k : Int)] 132 (0, 0)) := heap_alloc_new w2 _
    have hszw : W.heap.size ≤ (w2.alloc (.cells #[.string (joinB x.ts), .int .i64 (x.k : Int)] 132)).heap.size := B3.out.size
    generalize hw3 : w2.alloc (.cells #[.string (joinB x.ts), .int .i64 (x.k : Int)] 132) = w3 at *
    have O3 : Hid (w3.ownsRow w.heap.size 132 2 lv pre.length (leafCells (pre.map Lf.pair))) := own_far HO.out B3.out
    clear hw3
    refine wpAny_ready (rs := [7]) (by kernel_rfl) (by simp) ?_
    refine AllReady.cons rfl (fun K hK => ?_) AllReady.nil
    rw [if_pos (by rfl)]
    obtain ⟨i0, hi, hz0, hz1, hz2⟩ := info_parts Tryz.infoLeaf
    refine wp_append_lies w3 (.tmp 10) (.tmp 16) 39 rfl w.heap.size 132 i0 (.agg #[.string ⟨#[]⟩, .int .i64 0]) 2 24 Tryz.underlying39 hi hz0 hz1 hz2 rfl (by decide) lv pre.length _ rfl O3.out ⟨w2.heap.size, 0, none⟩ 1 1 [.string (joinB x.ts), .int .i64 (x.k : Int)] rfl rfl (World.news_of_block hnew) (by intro u hu; simp at hu; rcases hu with rfl | rfl <;> rfl) (by decide) (by simp [maxLen]; omega) (by omega) (by omega) w3.heap.size rfl ?_
    intro g cap w4 o4 g4 at4 lt4
    have N4 := hid (lv_next (x := x) (Nat.le_refl _) (by omega) HBW.out HO.out HB.out B3.out o4 g4 at4)
    have hne4 : some w.heap.size ≠ lv.ownBlock := by
     intro e
     obtain ⟨-, cur, hcur⟩ := own_at HO.out e.symm
     rw [HBW.out] at hcur
     cases hcur
    have c4 : w4.cell? ⟨w.heap.size, 0, none⟩ = some lv := (g4.cell_far ⟨w.heap.size, 0, none⟩ (by show w.heap.size < _; omega) hne4).trans c3
    have f4 : w4.frozen? ⟨w.heap.size, 0, none⟩ = false := (g4.frozen_far ⟨w.heap.size, 0, none⟩ (by show w.heap.size < _; omega) hne4).trans f3
    refine hK _ _ ?_
    clear hK K o4 g4 at4 hne4 c3 f3
    refine wpAny_ready (rs := [8]) (by kernel_rfl) (by simp) ?_
    refine AllReady.cons rfl (fun K hK => ?_) AllReady.nil
    go_simp
    refine hK _ _ ?_
    clear hK K
    refine wpAny_done (by kernel_rfl) ?_ _
    exact N4.out
   ·go_simp
    refine (leaf_number Ad x.k w1 (EW.out.later B1.out) hx1 hx2).mono ?_
    rintro e w2 ⟨rfl, hb2⟩
    have B2 := hid (show Below W.heap.size W w2 from B1.out.trans (hb2.mono B1.out.size))
    have c2 : w2.cell? ⟨w.heap.size, 0, none⟩ = some lv := (B2.out.cell (p := ⟨w.heap.size, 0, none⟩) hbW).trans hc
    refine hK _ _ ?_
    clear hK K hb2
    refine wpAny_take (i := 5) (v := .agg #[.string (joinB x.ts), .int .i64 (x.k : Int)]) rfl (by kernel_rfl) (by kernel_rfl) (by kernel_rfl) (fun _ _ _ h => h) (.inl ⟨by rfl, fun W' => ?_⟩) ?_
    ·go_simp
    refine wpAny_ready (rs := [0, 6]) (by kernel_rfl) (by simp) ?_
    refine AllReady.cons rfl (fun K hK => ?_) (AllReady.cons rfl (fun K hK => ?_) AllReady.nil)
    ·go_simp
     refine hK _ _ ?_
     clear hK K
     refine wpAny_ready (rs := [6]) (by kernel_rfl) (by simp) ?_
     refine AllReady.cons rfl (fun K hK => ?_) AllReady.nil
     go_simp
     refine hK _ _ ?_
     clear hK K
     have B3 := hid (show Below W.heap.size W (w2.alloc (.cells #[.string (joinB x.ts), .int .i64 (x.k : Int)] 132)) from B2.out.alloc B2.out.size _)
     have c3 : (w2.alloc (.cells #[.string (joinB x.ts), .int .i64 (x.k : Int)] 132)).cell? ⟨w.heap.size, 0, none⟩ = some lv := (B3.out.cell (p := ⟨w.heap.size, 0, none⟩) hbW).trans hc
     have f3 : (w2.alloc (.cells #[.string (joinB x.ts), .int .i64 (x.k : Int)] 132)).frozen? ⟨w.heap.size, 0, none⟩ = false := (B3.out.frozen (p := ⟨w.heap.size, 0, none⟩) hbW).trans hf
     have hnew : (w2.alloc (.cells #[.string (joinB x.ts), .int .i64 (x.k : Int)] 132)).heap[w2.heap.size]? = some (.cells #[.string (joinB x.ts), .int .i64 (x.k : Int)] 132 (0, 0)) := heap_alloc_new w2 _
     have hszw : W.heap.size ≤ (w2.alloc (.cells #[.string (joinB x.ts), .int .i64 (x.k : Int)] 132)).heap.size := B3.out.size
     generalize hw3 : w2.alloc (.cells #[.string (joinB x.ts), .int .i64 (x.k : Int)] 132) = w3 at *
     have O3 : Hid (w3.ownsRow w.heap.size 132 2 lv pre.length (leafCells (pre.map Lf.pair))) := own_far HO.out B3.out
     clear hw3
     refine wpAny_ready (rs := [7]) (by kernel_rfl) (by simp) ?_
     refine AllReady.cons rfl (fun K hK => ?_) AllReady.nil
     rw [if_pos (by rfl)]
     obtain ⟨i0, hi, hz0, hz1, hz2⟩ := info_parts Tryz.infoLeaf
     refine wp_append_lies w3 (.tmp 10) (.tmp 16) 39 rfl w.heap.size 132 i0 (.agg #[.string ⟨#[]⟩, .int .i64 0]) 2 24 Tryz.underlying39 hi hz0 hz1 hz2 rfl (by decide) lv pre.length _ rfl O3.out ⟨w2.heap.size, 0, none⟩ 1 1 [.string (joinB x.ts), .int .i64 (x.k : Int)] rfl rfl (World.news_of_block hnew) (by intro u hu; simp at hu; rcases hu with rfl | rfl <;> rfl) (by decide) (by simp [maxLen]; omega) (by omega) (by omega) w3.heap.size rfl ?_
     intro g cap w4 o4 g4 at4 lt4
     have N4 := hid (lv_next (x := x) (Nat.le_refl _) (by omega) HBW.out HO.out HB.out B3.out o4 g4 at4)
     have hne4 : some w.heap.size ≠ lv.ownBlock := by
      intro e
      obtain ⟨-, cur, hcur⟩ := own_at HO.out e.symm
      rw [HBW.out] at hcur
      cases hcur
     have c4 : w4.cell? ⟨w.heap.size, 0, none⟩ = some lv := (g4.cell_far ⟨w.heap.size, 0, none⟩ (by show w.heap.size < _; omega) hne4).trans c3
     have f4 : w4.frozen? ⟨w.heap.size, 0, none⟩ = false := (g4.frozen_far ⟨w.heap.size, 0, none⟩ (by show w.heap.size < _; omega) hne4).trans f3
     refine hK _ _ ?_
     clear hK K o4 g4 at4 hne4 c3 f3
     refine wpAny_ready (rs := [8]) (by kernel_rfl) (by simp) ?_
     refine AllReady.cons rfl (fun K hK => ?_) AllReady.nil
     go_simp
     refine hK _ _ ?_
     clear hK K
     refine wpAny_done (by kernel_rfl) ?_ _
     exact N4.out
    ·go_simp
     refine hK _ _ ?_
     clear hK K
     have B3 := hid (show Below W.heap.size W (w2.alloc (.cells #[.string (joinB x.ts), .int .i64 (x.k : Int)] 132)) from B2.out.alloc B2.out.size _)
     have c3 : (w2.alloc (.cells #[.string (joinB x.ts), .int .i64 (x.k : Int)] 132)).cell? ⟨w.heap.size, 0, none⟩ = some lv := (B3.out.cell (p := ⟨w.heap.size, 0, none⟩) hbW).trans hc
     have f3 : (w2.alloc (.cells #[.string (joinB x.ts), .int .i64 (x.k : Int)] 132)).frozen? ⟨w.heap.size, 0, none⟩ = false := (B3.out.frozen (p := ⟨w.heap.size, 0, none⟩) hbW).trans hf
     have hnew : (w2.alloc (.cells #[.string (joinB x.ts), .int .i64 (x.k : Int)] 132)).heap[w2.heap.size]? = some (.cells #[.string (joinB x.ts), .int .i64 (x.k : Int)] 132 (0, 0)) := heap_alloc_new w2 _
     have hszw : W.heap.size ≤ (w2.alloc (.cells #[.string (joinB x.ts), .int .i64 (x.k : Int)] 132)).heap.size := B3.out.size
     generalize hw3 : w2.alloc (.cells #[.string (joinB x.ts), .int .i64 (x.k : Int)] 132) = w3 at *
     have O3 : Hid (w3.ownsRow w.heap.size 132 2 lv pre.length (leafCells (pre.map Lf.pair))) := own_far HO.out B3.out
     clear hw3
     refine wpAny_ready (rs := [0]) (by kernel_rfl) (by simp) ?_
     refine AllReady.cons rfl (fun K hK => ?_) AllReady.nil
     go_simp
     refine hK _ _ ?_
     clear hK K
     refine wpAny_ready (rs := [7]) (by kernel_rfl) (by simp) ?_
     refine AllReady.cons rfl (fun K hK => ?_) AllReady.nil
     rw [if_pos (by rfl)]
     obtain ⟨i0, hi, hz0, hz1, hz2⟩ := info_parts Tryz.infoLeaf
     refine wp_append_lies w3 (.tmp 10) (.tmp 16) 39 rfl w.heap.size 132 i0 (.agg #[.string ⟨#[]⟩, .int .i64 0]) 2 24 Tryz.underlying39 hi hz0 hz1 hz2 rfl (by decide) lv pre.length _ rfl O3.out ⟨w2.heap.size, 0, none⟩ 1 1 [.string (joinB x.ts), .int .i64 (x.k : Int)] rfl rfl (World.news_of_block hnew) (by intro u hu; simp at hu; rcases hu with rfl | rfl <;> rfl) (by decide) (by simp [maxLen]; omega) (by omega) (by omega) w3.heap.size rfl ?_
     intro g cap w4 o4 g4 at4 lt4
     have N4 := hid (lv_next (x := x) (Nat.le_refl _) (by omega) HBW.out HO.out HB.out B3.out o4 g4 at4)
     have hne4 : some w.heap.size ≠ lv.ownBlock := by
      intro e
      obtain ⟨-, cur, hcur⟩ := own_at HO.out e.symm
      rw [HBW.out] at hcur
      cases hcur
     have c4 : w4.cell? ⟨w.heap.size, 0, none⟩ = some lv := (g4.cell_far ⟨w.heap.size, 0, none⟩ (by show w.heap.size < _; omega) hne4).trans c3
     have f4 : w4.frozen? ⟨w.heap.size, 0, none⟩ = false := (g4.frozen_far ⟨w.heap.size, 0, none⟩ (by show w.heap.size < _; omega) hne4).trans f3
     refine hK _ _ ?_
     clear hK K o4 g4 at4 hne4 c3 f3
     refine wpAny_ready (rs := [8]) (by kernel_rfl) (by simp) ?_
     refine AllReady.cons rfl (fun K hK => ?_) AllReady.nil
     go_simp
     refine hK _ _ ?_
     clear hK K
     refine wpAny_done (by kernel_rfl) ?_ _
     exact N4.out
 case done =>
  rintro D ys W hD hS ⟨lv, ⟨hblkW, ho⟩, hB⟩ hK
  have hc := cell_of_one hblkW
  have hT : Turn Odd w.heap.size W (W.putObj D (.deferred none)) := Turn.put _ (by omega) hK rfl
  have ho2 := own_turn ho hT (fun cur h => by cases h)
  have el : ys.length = ls.length := by rw [← hS]; simp
  rw [hS, el] at ho2
  have HO := hid ho2
  have HB := hid ((hb0.trans hB).trans (hT.below (Nat.le_trans hb0.size hB.size)))
  clear ho2 ho hT
  gi_wp2
  refine ⟨by simp, .inl ⟨_, _, rfl, run_takeDeferred hK, ?_⟩⟩
  exact ⟨_, results_tmp rfl _ _ _, ⟨lv, rfl, HO.out, HB.out⟩⟩
 case stop =>
  rintro D c pre W hD hS h hK
  exact h.elim
end Go.Proofs.YtnlcbheidiigaaaGreatDoor
namespace Go.Proofs.YtnlcbheidiigaaaGreatDoor.Sc
open Go.RowKit Go.Shelf
theorem wpList_errsG (w : World) {ops : Array Oper} {rest : List Oper} {o : Oper} {a : Act} {Q : Exit → Act → World → Prop} (hgd : o.guard = none) (s x : Operand)
  (ho : o.op = .call { callee := .builtin .append, args := #[s, x], argTypes := #[177, 177] })
  (base : Nat) (v : Value) (xs : List Value) (hs : a.eval s = v) (hown : w.ownsRow base 31 1 v xs.length xs)
  (g c : Nat) (l : List Value) (hx : a.eval x = .slice (some ⟨g, 0, none⟩) l.length c) (hrow : ∀ (j : Nat) u, l[j]? = some u → w.cell? ⟨g, j, none⟩ = some u) (h1 : ∀ u ∈ l, u.oneCell' = true) (hlen : xs.length + l.length ≤ 5000) (hbase : base ≤ w.heap.size)
  (h : ∀ ga gc (y : List Value) w', Hid (y = xs ++ l) → Hid (w'.ownsRow base 31 1 (.slice ga y.length gc) y.length y) → Hid (w.grownBy w' v.ownBlock) → Hid (Below base w w') → wpList Tryz.prog ops Q rest (a.put o.dst (.slice ga y.length gc)) w') :
  wpList Tryz.prog ops Q (o :: rest) a w := by
 obtain ⟨i0, hi, hz0, hz1, hz2⟩ := info_parts Tryz.infoErr
 refine wpList_append_own_at w hgd s x 177 ho base 31 i0 .nilIface 1 16 Tryz.underlying177 hi hz0 hz1 hz2 rfl (by decide) v xs.length xs hs hown ⟨g, 0, none⟩ l.length c l hx (by simp) (fun j u hu => by rw [add_at]; exact hrow j u hu) h1 (by simp [maxLen]; omega) (by omega) hbase ?_
 intro v' w' hown' hgrow _ _
 have e : xs.length + l.length = (xs ++ l).length := by simp
 rw [e] at hown'
 obtain ⟨ga, gc, rfl⟩ := own_slice hown'
 exact h ga gc (xs ++ l) w' rfl hown' hgrow ((Below.refl _ _).grown hgrow hbase (fun k hk => own_block hown hk))
def NoText (w : World) (g : Nat) : Prop := ∀ s, w.cell? ⟨g, 0, none⟩ ≠ some (.string s)
theorem _root_.Go.Proofs.YtnlcbheidiigaaaGreatDoor.Ch.grown {Ad : Nat → Addr} {n₀ k g : Nat} {W W' : World} (hg : W.grownBy W' (some g)) (hn : n₀ ≤ W.heap.size) (hr : NoText W g) : ∀ {us : List ByteArray} {v : Value}, Ch Ad n₀ W k us v → Ch Ad n₀ W' k us v
 | [], _, h => h
 | s :: us, _, ⟨b, inner, hv, hb, c0, c1, hi⟩ => by
  have hne : b ≠ g := fun e => hr s (by rw [← e]; exact c0)
  have hbl := hg.block b (by omega) (fun e => hne (by simpa using e))
  exact ⟨b, inner, hv, hb, (World.cell?_of_block (w := W) (a := ⟨b, 0, none⟩) hbl).trans c0, (World.cell?_of_block (w := W) (a := ⟨b, 1, none⟩) hbl).trans c1, Ch.grown hg hn hr hi⟩
def One (Ad : Nat → Addr) (n₀ : Nat) (W : World) (v : Value) (ls : List (List ByteArray × Nat)) : Prop := (v = .nilIface ∧ ls = []) ∨ ∃ p, ls = [p] ∧ Chn Ad n₀ W 3 v p
theorem One.top {Ad : Nat → Addr} {n₀ : Nat} {W : World} {v : Value} {ls : List (List ByteArray × Nat)} (h : One Ad n₀ W v ls) : Top Ad n₀ W 3 v ls := by
 rcases h with ⟨rfl, rfl⟩ | ⟨p, rfl, h⟩
 ·exact .empty
 ·exact .one _ _ h
theorem One.move {Ad : Nat → Addr} {n₀ n₁ : Nat} {W W' : World} {v : Value} {ls : List (List ByteArray × Nat)} (h : One Ad n₀ W v ls) (hb : Below n₀ W W') (hn : n₀ ≤ n₁) : One Ad n₁ W' v ls := by
 rcases h with h | ⟨p, h1, h2⟩
 ·exact .inl h
 ·exact .inr ⟨p, h1, h2.move hb hn⟩
theorem One.grown {Ad : Nat → Addr} {n₀ g : Nat} {W W' : World} {v : Value} {ls : List (List ByteArray × Nat)} (h : One Ad n₀ W v ls) (hg : W.grownBy W' (some g)) (hn : n₀ ≤ W.heap.size) (hr : NoText W g) : One Ad W'.heap.size W' v ls := by
 rcases h with h | ⟨p, h1, h2⟩
 ·exact .inl h
 ·exact .inr ⟨p, h1, ((h2.1.grown hg hn hr).wider (Nat.le_trans hn hg.size)), h2.2⟩
theorem One.cell {Ad : Nat → Addr} {n₀ : Nat} {W : World} {v : Value} {ls : List (List ByteArray × Nat)} (h : One Ad n₀ W v ls) : v.oneCell' = true ∧ ∀ s, v ≠ .string s := by
 rcases h with ⟨rfl, -⟩ | ⟨p, -, h⟩
 ·exact ⟨rfl, by simp⟩
 ·obtain ⟨t, q, rfl, -⟩ := h.1.shape
  exact ⟨rfl, by simp⟩
theorem own_more {w w' : World} {B n z : Nat} {e : TypeId} {v : Value} {xs : List Value} (h : w.ownsRow B e z v n xs) (hb : Below w.heap.size w w') : w'.ownsRow B e z v n xs := by
 refine ⟨h.1, ?_⟩
 rcases h.2 with h1 | ⟨g, cap, cur, h1, h2, h3, h4⟩
 ·exact .inl h1
 ·exact .inr ⟨g, cap, cur, h1, h2, (hb.block g (Array.getElem?_eq_some_iff.1 h3).1).trans h3, h4⟩
theorem Below.seen {B : Nat} {w w' : World} {p : Addr} {v : Value} (hb : Below B w w') (hB : w.heap.size ≤ B) (h : w.cell? p = some v) : w'.cell? p = some v :=
 (hb.cell (p := p) (Nat.lt_of_lt_of_le (World.block_lt_of_cell? w p h) hB)).trans h
end Go.Proofs.YtnlcbheidiigaaaGreatDoor.Sc
