/- Rows that are the same: numbers, parts, entries. -/
import Derived.Test.YtnbgjbdbbmpoaaaDoorJoJt
namespace Go.Proofs.YtnbgjbdbbmpoaaaDoor.Jo
open Go.RowKit Go.Shelf Go.Maps
set_option maxRecDepth 100000
theorem eqA (n : Nat) (h : ∀ (x : Int) (w : World), (Op.equalIn n 3 (.int .i64 x) (.int .i64 x)).run Tryd.prog w = .ok true w) (w : World) (a b c e : Int) : (Op.equalIn (n + 1) 33 (.agg #[.int .i64 a, .int .i64 b, .int .i64 c, .int .i64 e]) (.agg #[.int .i64 a, .int .i64 b, .int .i64 c, .int .i64 e])).run Tryd.prog w = .ok true w := by
  have u32 := Tryd.underlying33
  have a3 := Tryd.isAgg3
  have z3 := Tryd.sizeOf3
  simp only [Op.equalIn, Sem.run_bind, run_underlying u32, Result.andThen_ok, z3]
  simp [Std.Legacy.Range.forIn_eq_forIn_range', Std.Legacy.Range.size, List.range', part, a3, z3, h, go_sem]
theorem eqI (d : Nat) (x : Int) (w : World) : (Op.equalIn (d + 1) 3 (.int .i64 x) (.int .i64 x)).run Tryd.prog w = .ok true w := by
  rw [run_equalIn_int w d 3 .i64 .i64 x x Tryd.underlying3]
  simp
theorem eqPart (x a b c e t : Int) (w : World) : (Op.equalIn 10000 35 (.agg #[.int .i64 x, .int .i64 a, .int .i64 b, .int .i64 c, .int .i64 e, .int .i64 t]) (.agg #[.int .i64 x, .int .i64 a, .int .i64 b, .int .i64 c, .int .i64 e, .int .i64 t])).run Tryd.prog w = .ok true w := by
  have hS : Tryd.prog.underlying 35 = some (.struct (Tryd.prog.fieldsOf 35)) := by kernel_rfl
  have hp : Tryd.prog.stoodInHeld 35 = false := by kernel_rfl
  have h := run_equalIn_agg (P := Tryd.prog) w 9999 35 #[.int .i64 x, .int .i64 a, .int .i64 b, .int .i64 c, .int .i64 e, .int .i64 t] #[.int .i64 x, .int .i64 a, .int .i64 b, .int .i64 c, .int .i64 e, .int .i64 t] hS hp
  have u3 := Tryd.underlying3
  have a3 := Tryd.isAgg3
  have z3 := Tryd.sizeOf3
  have u32 := Tryd.underlying33
  have a32 := Tryd.isAgg33
  have z32 := Tryd.sizeOf33
  have hA : ∀ w, (Op.equalIn 9999 33 (.agg #[.int .i64 a, .int .i64 b, .int .i64 c, .int .i64 e]) (.agg #[.int .i64 a, .int .i64 b, .int .i64 c, .int .i64 e])).run Tryd.prog w = .ok true w := fun w => eqA 9998 (eqI 9997) w a b c e
  simp only [Program.fieldsOf, Tryd.underlying35] at h
  rw [show (10000 : Nat) = 9999 + 1 from rfl, h]
  clear h hS hp
  go_simp
theorem neqP (x a b c e t : Int) (w : World) : (binOp .neq 35 (.agg #[.int .i64 x, .int .i64 a, .int .i64 b, .int .i64 c, .int .i64 e, .int .i64 t]) (.agg #[.int .i64 x, .int .i64 a, .int .i64 b, .int .i64 c, .int .i64 e, .int .i64 t])).run Tryd.prog w = .ok (.bool false) w := by
  simp only [binOp]
  simp [Op.equal, Op.maxDepth, eqPart]
theorem eqlP (x a b c e t : Int) (w : World) : (binOp .eql 35 (.agg #[.int .i64 x, .int .i64 a, .int .i64 b, .int .i64 c, .int .i64 e, .int .i64 t]) (.agg #[.int .i64 x, .int .i64 a, .int .i64 b, .int .i64 c, .int .i64 e, .int .i64 t])).run Tryd.prog w = .ok (.bool true) w := by
  simp only [binOp]
  simp [Op.equal, Op.maxDepth, eqPart]
/-- A row of numbers. -/
def IRow (W : World) (v : Value) (xs : List Int) : Prop := ∃ a c, v = .slice a xs.length c ∧ (xs = [] ∨ ∃ b o, a = some ⟨b, o, none⟩ ∧ ∀ (j : Nat) x, xs[j]? = some x → W.cell? ⟨b, o + j, none⟩ = some (.int .i64 x))
theorem IRow.later {W W' : World} {v : Value} {xs : List Int} (h : IRow W v xs) (hb : Below W.heap.size W W') : IRow W' v xs := by
  obtain ⟨a, c, h1, h2⟩ := h
  refine ⟨a, c, h1, h2.imp id ?_⟩
  rintro ⟨b, o, h3, h4⟩
  exact ⟨b, o, h3, fun j x hx => seen hb (Nat.le_refl _) (h4 j x hx)⟩
theorem irow_of {B : Nat} {W : World} {v : Value} {xs : List Int} (h : W.ownsRow B 3 1 v xs.length (xs.map gz)) : IRow W v xs := by
  rcases h with ⟨h0, ⟨h1, h2⟩ | ⟨g, cap, cur, h1, h2, h3, h4, h5, h6, h7⟩⟩
  · exact ⟨none, 0, by rw [h1, h2], .inl (List.length_eq_zero_iff.1 h2)⟩
  · refine ⟨some ⟨g, 0, none⟩, cap, h1, .inr ⟨g, 0, rfl, fun j x hj => ?_⟩⟩
    have hlt := (List.getElem?_eq_some_iff.1 hj).1
    rw [Nat.zero_add]
    refine cell_blk h3 ?_
    have e : (cur.toList.take (xs.length * 1))[j]? = some (gz x) := by rw [h7, List.getElem?_map, hj]; rfl
    rw [List.getElem?_take_of_lt (by omega)] at e
    rw [← Array.getElem?_toList]
    exact e
set_option maxHeartbeats 1600000 in
set_option maxRecDepth 100000 in
theorem same4_any (W : World) (v u : Value) (xs : List Int) (h : IRow W v xs) (h' : IRow W u xs) (hl : xs.length ≤ 1000) :
    Calls Tryd.prog 25 #[v, u] W fun e W' => e = .returned (.bool true) ∧ Below W.heap.size W W' := by
  have H := hid h
  have H' := hid h'
  obtain ⟨a, c, rfl, -⟩ := h
  obtain ⟨a', c', rfl, -⟩ := h'
  have hli : (xs.length : Int) ≤ 1000 := by omega
  go_enter Tryd.func25, Tryd.ntmps25
  go_wp2_with fail
  go_loopg [5] xs.length (fun gh i wr => ∃ k : Nat, k ≤ xs.length ∧ gh = xs.length - k ∧ i = .int .i64 (k : Int) ∧ Hid (Below W.heap.size W wr))
  case atStart => exact ⟨0, Nat.zero_le _, rfl, rfl, Below.refl _ _⟩
  case round =>
    rename World => wr
    obtain ⟨k, hk, rfl, rfl, HB⟩ := hrel
    by_cases hlt : k < xs.length
    · have hki : (k : Int) < (xs.length : Int) := by omega
      obtain ⟨x, hx⟩ := at_lt xs k hlt
      obtain ⟨b, o, rfl, d0⟩ : ∃ b o, a = some ⟨b, o, none⟩ ∧ wr.cell? ⟨b, o + k, none⟩ = some (.int .i64 x) := by
        obtain ⟨a2, c2, hv, hl2⟩ := H.out.later HB.out
        obtain ⟨rfl, rfl⟩ : a = a2 ∧ c = c2 := by simpa using hv
        rcases hl2 with q | ⟨b, o, q1, q2⟩
        · rw [q] at hlt; simp at hlt
        · exact ⟨b, o, q1, q2 k x hx⟩
      obtain ⟨b', o', rfl, d1⟩ : ∃ b o, a' = some ⟨b, o, none⟩ ∧ wr.cell? ⟨b, o + k, none⟩ = some (.int .i64 x) := by
        obtain ⟨a2, c2, hv, hl2⟩ := H'.out.later HB.out
        obtain ⟨rfl, rfl⟩ : a' = a2 ∧ c' = c2 := by simpa using hv
        rcases hl2 with q | ⟨b, o, q1, q2⟩
        · rw [q] at hlt; simp at hlt
        · exact ⟨b, o, q1, q2 k x hx⟩
      clear hx
      go_wp2_with fail
      go_quiet (fail)
      go_wp2_with fail
      go_roundg (xs.length - (k + 1))
      case measure => omega
      case rel => exact ⟨k + 1, by omega, rfl, by go_num, by first | exact HB.out | exact HB.out.drew | exact HB.out.trans ((drewN_below _ _).mono HB.out.size)⟩
    · have hki : ¬ (k : Int) < (xs.length : Int) := by omega
      clear hk hlt
      go_wp2_with fail
      go_ret
      exact ⟨rfl, HB.out⟩
set_option maxHeartbeats 1600000 in
set_option maxRecDepth 100000 in
theorem same9_any (W : World) (v u : Value) (l : List Prt) (h : PRow W v l) (h' : PRow W u l) (hl : l.length ≤ 1000) :
    Calls Tryd.prog 51 #[v, u] W fun e W' => e = .returned (.bool true) ∧ Below W.heap.size W W' := by
  have H := hid h
  have H' := hid h'
  obtain ⟨a, c, rfl, -⟩ := h
  obtain ⟨a', c', rfl, -⟩ := h'
  have hli : (l.length : Int) ≤ 1000 := by omega
  have nq := neqP
  go_enter Tryd.func51, Tryd.ntmps51
  go_wp2_with fail
  go_loopg [5] l.length (fun gh i wr => ∃ k : Nat, k ≤ l.length ∧ gh = l.length - k ∧ i = .int .i64 (k : Int) ∧ Hid (Below W.heap.size W wr))
  case atStart => exact ⟨0, Nat.zero_le _, rfl, rfl, Below.refl _ _⟩
  case round =>
    rename World => wr
    obtain ⟨k, hk, rfl, rfl, HB⟩ := hrel
    by_cases hlt : k < l.length
    · have hki : (k : Int) < (l.length : Int) := by omega
      obtain ⟨p, hp⟩ := at_lt l k hlt
      obtain ⟨b, o, rfl, six⟩ := (H.out.later HB.out).at hp
      obtain ⟨b', o', rfl, six'⟩ := (H'.out.later HB.out).at hp
      obtain ⟨d0, d1, d2, d3, d4, d5⟩ := six
      obtain ⟨f0, f1, f2, f3, f4, f5⟩ := six'
      clear hp
      go_wp2_with fail
      go_quiet (fail)
      go_wp2_with fail
      go_roundg (l.length - (k + 1))
      case measure => omega
      case rel => exact ⟨k + 1, by omega, rfl, by go_num, HB.out.trans ((drewN_below _ _).mono HB.out.size)⟩
    · have hki : ¬ ((k : Int) < (l.length : Int)) := by omega
      go_wp2_with fail
      go_ret
      exact ⟨rfl, HB.out⟩
set_option maxHeartbeats 1600000 in
set_option maxRecDepth 100000 in
theorem equal_any (W : World) (v u : Value) (l : List Prt) (h : PRow W v l) (h' : PRow W u l) (hl : l.length ≤ 1000) :
    Calls Tryd.prog 42 #[v, u] W fun e W' => e = .returned (.bool true) ∧ Below W.heap.size W W' := by
  have H := hid h
  have H' := hid h'
  obtain ⟨a, c, rfl, -⟩ := h
  obtain ⟨a', c', rfl, -⟩ := h'
  have hli : (l.length : Int) ≤ 1000 := by omega
  have nq := neqP
  go_enter Tryd.func42, Tryd.ntmps42
  go_wp2_with fail
  go_loopg [13] l.length (fun gh i wr => ∃ k : Nat, k ≤ l.length ∧ gh = l.length - k ∧ i = .int .i64 (k : Int) ∧ Hid (Below W.heap.size W wr))
  case atStart => exact ⟨0, Nat.zero_le _, rfl, rfl, Below.refl _ _⟩
  case round =>
    rename World => wr
    obtain ⟨k, hk, rfl, rfl, HB⟩ := hrel
    by_cases hlt : k < l.length
    · have hki : (k : Int) < (l.length : Int) := by omega
      obtain ⟨p, hp⟩ := at_lt l k hlt
      obtain ⟨b, o, rfl, six⟩ := (H.out.later HB.out).at hp
      obtain ⟨b', o', rfl, six'⟩ := (H'.out.later HB.out).at hp
      obtain ⟨d0, d1, d2, d3, d4, d5⟩ := six
      obtain ⟨f0, f1, f2, f3, f4, f5⟩ := six'
      clear hp
      go_wp2_with fail
      go_quiet (fail)
      go_wp2_with fail
      go_roundg (l.length - (k + 1))
      case measure => omega
      case rel => exact ⟨k + 1, by omega, rfl, by go_num, HB.out.trans ((drewN_below _ _).mono HB.out.size)⟩
    · have hki : ¬ ((k : Int) < (l.length : Int)) := by omega
      go_wp2_with fail
      go_ret
      exact ⟨rfl, HB.out⟩
set_option maxHeartbeats 1600000 in
set_option maxRecDepth 100000 in
theorem rsame_any (W : World) (u : Ue) (pv' : Value) (h : PRow W u.pv u.ps) (h' : PRow W pv' u.ps) (hl : u.ps.length ≤ 1000) :
    Calls Tryd.prog 40 #[.agg #[.int .i64 u.k, .int .i64 u.id, .int .i64 u.p.c, .int .i64 u.p.v0, .int .i64 u.p.v1, .int .i64 u.p.v2, .int .i64 u.p.v3, .int .i64 u.p.t, u.pv, .int .i64 u.n, .int .i64 u.o], .agg #[.int .i64 u.k, .int .i64 u.id, .int .i64 u.p.c, .int .i64 u.p.v0, .int .i64 u.p.v1, .int .i64 u.p.v2, .int .i64 u.p.v3, .int .i64 u.p.t, pv', .int .i64 u.n, .int .i64 u.o]] W fun e W' => e = .returned (.bool true) ∧ Below W.heap.size W W' := by
  have C : Hid (∀ W', Below W.heap.size W W' → Calls Tryd.prog 51 #[u.pv, pv'] W' fun e w => e = .returned (.bool true) ∧ Below W.heap.size W w) := fun W' hb => (same9_any W' _ _ u.ps (h.later hb) (h'.later hb) hl).mono fun _ _ q => ⟨q.1, hb.trans (q.2.mono hb.size)⟩
  obtain ⟨k, id, ⟨c, v0, v1, v2, v3, t⟩, pv, ps, n, o⟩ := u
  simp only at h C ⊢
  obtain ⟨a, ca, rfl, -⟩ := h
  obtain ⟨a', ca', rfl, -⟩ := h'
  have eq := eqlP
  go_enter Tryd.func40, Tryd.ntmps40
  go_wp2_with fail
  refine (C.out _ (((Below.refl _ _).alloc (Nat.le_refl _) _).alloc (by simp) _)).mono ?_
  rintro e w1 ⟨rfl, hb1⟩
  have HB := hid hb1
  clear hb1 C
  go_wp2_with fail
  go_ret
  exact ⟨rfl, HB.out⟩
set_option maxHeartbeats 1600000 in
set_option maxRecDepth 100000 in
theorem jsame_any (W : World) (u : Ue) (pv' : Value) (h : PRow W u.pv u.ps) (h' : PRow W pv' u.ps) (hl : u.ps.length ≤ 1000) :
    Calls Tryd.prog 27 #[.agg #[.int .i64 u.k, .int .i64 u.id, .int .i64 u.p.c, .int .i64 u.p.v0, .int .i64 u.p.v1, .int .i64 u.p.v2, .int .i64 u.p.v3, .int .i64 u.p.t, u.pv, .int .i64 u.n, .int .i64 u.o], .agg #[.int .i64 u.k, .int .i64 u.id, .int .i64 u.p.c, .int .i64 u.p.v0, .int .i64 u.p.v1, .int .i64 u.p.v2, .int .i64 u.p.v3, .int .i64 u.p.t, pv', .int .i64 u.n, .int .i64 u.o]] W fun e W' => e = .returned (.bool true) ∧ Below W.heap.size W W' := by
  have C : Hid (∀ W', Below W.heap.size W W' → Calls Tryd.prog 42 #[u.pv, pv'] W' fun e w => e = .returned (.bool true) ∧ Below W'.heap.size W' w) := fun W' hb => (equal_any W' _ _ u.ps (h.later hb) (h'.later hb) hl).mono fun _ _ q => q
  obtain ⟨k, id, ⟨c, v0, v1, v2, v3, t⟩, pv, ps, n, o⟩ := u
  simp only at h C ⊢
  obtain ⟨a, ca, rfl, -⟩ := h
  obtain ⟨a', ca', rfl, -⟩ := h'
  have eq := eqlP
  go_enter Tryd.func27, Tryd.ntmps27
  go_wp2_with fail
  have h1 := bAl W (.cells #[.int .i64 k, .int .i64 id, .int .i64 c, .int .i64 v0, .int .i64 v1, .int .i64 v2, .int .i64 v3, .int .i64 t, .slice a ps.length ca, .int .i64 n, .int .i64 o] 38)
  have r1 := heap_alloc_new W (.cells #[.int .i64 k, .int .i64 id, .int .i64 c, .int .i64 v0, .int .i64 v1, .int .i64 v2, .int .i64 v3, .int .i64 t, .slice a ps.length ca, .int .i64 n, .int .i64 o] 38)
  revert h1 r1
  generalize hw : W.alloc (.cells #[.int .i64 k, .int .i64 id, .int .i64 c, .int .i64 v0, .int .i64 v1, .int .i64 v2, .int .i64 v3, .int .i64 t, .slice a ps.length ca, .int .i64 n, .int .i64 o] 38) = wa
  intro h1 r1
  have hs : wa.heap.size = W.heap.size + 1 := by rw [← hw]; simp
  have h2 := bAl wa (.cells #[.int .i64 k, .int .i64 id, .int .i64 c, .int .i64 v0, .int .i64 v1, .int .i64 v2, .int .i64 v3, .int .i64 t, .slice a' ps.length ca', .int .i64 n, .int .i64 o] 38)
  have r2 := heap_alloc_new wa (.cells #[.int .i64 k, .int .i64 id, .int .i64 c, .int .i64 v0, .int .i64 v1, .int .i64 v2, .int .i64 v3, .int .i64 t, .slice a' ps.length ca', .int .i64 n, .int .i64 o] 38)
  refine (C.out _ (h1.trans (h2.mono h1.size))).mono ?_
  rintro e w1 ⟨rfl, hb1⟩
  have q1 := blk_seen hb1 (Nat.le_refl _) (blk_seen h2 (Nat.le_refl _) r1)
  have q2 := blk_seen hb1 (Nat.le_refl _) r2
  rw [hs] at q2
  have d1 : w1.cell? ⟨W.heap.size, 9, none⟩ = some (.int .i64 n) := cell_blk q1 rfl
  have d2 : w1.cell? ⟨W.heap.size, 10, none⟩ = some (.int .i64 o) := cell_blk q1 rfl
  have d3 : w1.cell? ⟨W.heap.size + 1, 9, none⟩ = some (.int .i64 n) := cell_blk q2 rfl
  have d4 : w1.cell? ⟨W.heap.size + 1, 10, none⟩ = some (.int .i64 o) := cell_blk q2 rfl
  have HB := hid ((h1.trans (h2.mono h1.size)).trans (hb1.mono (Nat.le_trans h1.size h2.size)))
  clear hb1 C q1 q2 h1 h2 r1 r2
  go_wp2_with fail
  go_ret
  exact ⟨rfl, HB.out⟩
theorem ue_with {u x : Ue} (h : u.bare = x.bare) : x = u.with x.pv := by
  obtain ⟨k, id, p, pv, ps, n, o⟩ := u
  obtain ⟨k', id', p', pv', ps', n', o'⟩ := x
  simp only [Ue.bare, Ue.mk.injEq] at h
  obtain ⟨rfl, rfl, rfl, -, rfl, rfl, rfl⟩ := h
  rfl
/-- The cells of an entry. -/
def Elev (W : World) (b o : Nat) (u : Ue) : Prop := W.cell? ⟨b, o, none⟩ = some (.int .i64 u.k) ∧ W.cell? ⟨b, o + 1, none⟩ = some (.int .i64 u.id) ∧ W.cell? ⟨b, o + 2, none⟩ = some (.int .i64 u.p.c) ∧ W.cell? ⟨b, o + 3, none⟩ = some (.int .i64 u.p.v0) ∧ W.cell? ⟨b, o + 4, none⟩ = some (.int .i64 u.p.v1) ∧ W.cell? ⟨b, o + 5, none⟩ = some (.int .i64 u.p.v2) ∧ W.cell? ⟨b, o + 6, none⟩ = some (.int .i64 u.p.v3) ∧ W.cell? ⟨b, o + 7, none⟩ = some (.int .i64 u.p.t) ∧ W.cell? ⟨b, o + 8, none⟩ = some (u.pv) ∧ W.cell? ⟨b, o + 9, none⟩ = some (.int .i64 u.n) ∧ W.cell? ⟨b, o + 10, none⟩ = some (.int .i64 u.o)
theorem Us.el {B : Nat} {W : World} {a : Option Addr} {c : Nat} {l : List Ue} (h : Us B W (.slice a l.length c) l) {j : Nat} {u : Ue} (hj : l[j]? = some u) : ∃ g, a = some ⟨g, 0, none⟩ ∧ Elev W g (j * 11) u ∧ PRow W u.pv u.ps := by
  have hlt := (List.getElem?_eq_some_iff.1 hj).1
  obtain ⟨g, rfl⟩ : ∃ g, a = some ⟨g, 0, none⟩ := by
    obtain ⟨g, cap', e, -⟩ := World.ownsRow.form h.1 (by omega : 0 < l.length)
    simp only [Value.slice.injEq, true_and] at e
    exact ⟨g, e.1⟩
  have A := uCells_at l j u hj
  have C : ∀ i, i < 11 → W.cell? ⟨g, j * 11 + i, none⟩ = u.arr[i]? := fun i hi => (World.ownsRow.cellAt h.1 (j * 11 + i) (by omega)).trans (A i hi)
  exact ⟨g, rfl, ⟨C 0 (by decide), C 1 (by decide), C 2 (by decide), C 3 (by decide), C 4 (by decide), C 5 (by decide), C 6 (by decide), C 7 (by decide), C 8 (by decide), C 9 (by decide), C 10 (by decide)⟩, (h.2 u (List.mem_of_getElem? hj)).row⟩
set_option maxHeartbeats 3200000 in
theorem alike_any {B B' : Nat} (W : World) (lv mv : Value) (l m : List Ue) (h : Us B W lv l) (h' : Us B' W mv m) (e : l.map Ue.bare = m.map Ue.bare) (hn : l.length ≤ 100000) (hp : ∀ u ∈ l, u.ps.length ≤ 1000) :
    Calls Tryd.prog 22 #[lv, mv] W fun e W' => e = .returned (.bool true) ∧ Below W.heap.size W W' := by
  have el : m.length = l.length := by have := congrArg List.length e; simpa using this.symm
  have H := hid h
  have H' := hid h'
  have HE := hid e
  have HP := hid hp
  obtain ⟨a, c, rfl⟩ := h.form
  obtain ⟨a', c', e'⟩ := h'.form
  rw [el] at e'
  subst e'
  have hli : (l.length : Int) ≤ 100000 := by omega
  clear h h' e hp
  go_enter Tryd.func22, Tryd.ntmps22
  go_wp2_with fail
  go_loopg [5] l.length (fun gh i wr => ∃ k : Nat, k ≤ l.length ∧ gh = l.length - k ∧ i = .int .i64 (k : Int) ∧ Hid (Below W.heap.size W wr))
  case atStart => exact ⟨0, Nat.zero_le _, rfl, rfl, Below.refl _ _⟩
  case round =>
    rename World => wr
    obtain ⟨k, hk, rfl, rfl, HB⟩ := hrel
    by_cases hlt : k < l.length
    · have hki : (k : Int) < (l.length : Int) := by omega
      obtain ⟨u, hu⟩ := at_lt l k hlt
      obtain ⟨x, hx⟩ := at_lt m k (by omega)
      have hux : u.bare = x.bare := by
        have := congrArg (fun z => z[k]?) HE.out
        simpa [hu, hx] using this
      obtain ⟨pv', rfl⟩ : ∃ pv', x = u.with pv' := ⟨_, ue_with hux⟩
      clear hux
      obtain ⟨g, rfl, -⟩ := H.out.el hu
      obtain ⟨g', rfl, -⟩ : ∃ g, a' = some ⟨g, 0, none⟩ ∧ True := by
        have h2 := H'.out
        rw [← el] at h2
        obtain ⟨g, q, -⟩ := h2.el hx
        exact ⟨g, q, trivial⟩
      have KK : Hid (∀ W', Below wr.heap.size wr W' → (W'.cell? ⟨g, k * 11, none⟩ = some (.int .i64 u.k) ∧ W'.cell? ⟨g, k * 11 + 1, none⟩ = some (.int .i64 u.id) ∧ W'.cell? ⟨g, k * 11 + 2, none⟩ = some (.int .i64 u.p.c) ∧ W'.cell? ⟨g, k * 11 + 3, none⟩ = some (.int .i64 u.p.v0) ∧ W'.cell? ⟨g, k * 11 + 4, none⟩ = some (.int .i64 u.p.v1) ∧ W'.cell? ⟨g, k * 11 + 5, none⟩ = some (.int .i64 u.p.v2) ∧ W'.cell? ⟨g, k * 11 + 6, none⟩ = some (.int .i64 u.p.v3) ∧ W'.cell? ⟨g, k * 11 + 7, none⟩ = some (.int .i64 u.p.t) ∧ W'.cell? ⟨g, k * 11 + 8, none⟩ = some (u.pv) ∧ W'.cell? ⟨g, k * 11 + 9, none⟩ = some (.int .i64 u.n) ∧ W'.cell? ⟨g, k * 11 + 10, none⟩ = some (.int .i64 u.o)) ∧ (W'.cell? ⟨g', k * 11, none⟩ = some (.int .i64 u.k) ∧ W'.cell? ⟨g', k * 11 + 1, none⟩ = some (.int .i64 u.id) ∧ W'.cell? ⟨g', k * 11 + 2, none⟩ = some (.int .i64 u.p.c) ∧ W'.cell? ⟨g', k * 11 + 3, none⟩ = some (.int .i64 u.p.v0) ∧ W'.cell? ⟨g', k * 11 + 4, none⟩ = some (.int .i64 u.p.v1) ∧ W'.cell? ⟨g', k * 11 + 5, none⟩ = some (.int .i64 u.p.v2) ∧ W'.cell? ⟨g', k * 11 + 6, none⟩ = some (.int .i64 u.p.v3) ∧ W'.cell? ⟨g', k * 11 + 7, none⟩ = some (.int .i64 u.p.t) ∧ W'.cell? ⟨g', k * 11 + 8, none⟩ = some (pv') ∧ W'.cell? ⟨g', k * 11 + 9, none⟩ = some (.int .i64 u.n) ∧ W'.cell? ⟨g', k * 11 + 10, none⟩ = some (.int .i64 u.o))) := fun W' hb => by
        have hb2 := HB.out.trans (hb.mono HB.out.size)
        obtain ⟨g2, e2, q, -⟩ := (H.out.later hb2).el hu
        have h2 := H'.out.later hb2
        rw [← el] at h2
        obtain ⟨g3, e3, q3, -⟩ := h2.el hx
        obtain rfl : g = g2 := by simpa using e2
        obtain rfl : g' = g3 := by simpa using e3
        exact ⟨q, q3⟩
      have CS : Hid (∀ W', Below wr.heap.size wr W' → Calls Tryd.prog 40 #[.agg #[.int .i64 u.k, .int .i64 u.id, .int .i64 u.p.c, .int .i64 u.p.v0, .int .i64 u.p.v1, .int .i64 u.p.v2, .int .i64 u.p.v3, .int .i64 u.p.t, u.pv, .int .i64 u.n, .int .i64 u.o], .agg #[.int .i64 u.k, .int .i64 u.id, .int .i64 u.p.c, .int .i64 u.p.v0, .int .i64 u.p.v1, .int .i64 u.p.v2, .int .i64 u.p.v3, .int .i64 u.p.t, pv', .int .i64 u.n, .int .i64 u.o]] W' fun e w => e = .returned (.bool true) ∧ Below wr.heap.size wr w) := fun W' hb => by
        have hb2 := HB.out.trans (hb.mono HB.out.size)
        obtain ⟨g2, e2, -, q⟩ := (H.out.later hb2).el hu
        have h2 := H'.out.later hb2
        rw [← el] at h2
        obtain ⟨g3, e3, -, q3⟩ := h2.el hx
        exact (rsame_any W' u pv' q q3 (HP.out u (List.mem_of_getElem? hu))).mono fun _ _ q => ⟨q.1, hb.trans (q.2.mono hb.size)⟩
      obtain ⟨uk, id, ⟨pc, v0, v1, v2, v3, t⟩, pv, ps, n, o⟩ := u
      simp only at KK CS
      have hpv : ∃ ad n c, pv = .slice ad n c := by
        obtain ⟨g2, e2, -, ⟨ad, c, q, -⟩⟩ := H.out.el hu
        exact ⟨_, _, _, q⟩
      have hpv' : ∃ ad n c, pv' = .slice ad n c := by
        have h2 := H'.out
        rw [← el] at h2
        obtain ⟨g2, e2, -, ⟨ad, c, q, -⟩⟩ := h2.el hx
        exact ⟨_, _, _, q⟩
      obtain ⟨ad, pn, pcap, rfl⟩ := hpv
      obtain ⟨ad', pn', pcap', rfl⟩ := hpv'
      clear hu hx
      go_upto_region 6 with fail
      go_region_held3 (fun W' => (W'.cell? ⟨g, k * 11, none⟩ = some (.int .i64 uk) ∧ W'.cell? ⟨g, k * 11 + 1, none⟩ = some (.int .i64 id) ∧ W'.cell? ⟨g, k * 11 + 2, none⟩ = some (.int .i64 pc) ∧ W'.cell? ⟨g, k * 11 + 3, none⟩ = some (.int .i64 v0) ∧ W'.cell? ⟨g, k * 11 + 4, none⟩ = some (.int .i64 v1) ∧ W'.cell? ⟨g, k * 11 + 5, none⟩ = some (.int .i64 v2) ∧ W'.cell? ⟨g, k * 11 + 6, none⟩ = some (.int .i64 v3) ∧ W'.cell? ⟨g, k * 11 + 7, none⟩ = some (.int .i64 t) ∧ W'.cell? ⟨g, k * 11 + 8, none⟩ = some (.slice ad pn pcap) ∧ W'.cell? ⟨g, k * 11 + 9, none⟩ = some (.int .i64 n) ∧ W'.cell? ⟨g, k * 11 + 10, none⟩ = some (.int .i64 o)) ∧ (W'.cell? ⟨g', k * 11, none⟩ = some (.int .i64 uk) ∧ W'.cell? ⟨g', k * 11 + 1, none⟩ = some (.int .i64 id) ∧ W'.cell? ⟨g', k * 11 + 2, none⟩ = some (.int .i64 pc) ∧ W'.cell? ⟨g', k * 11 + 3, none⟩ = some (.int .i64 v0) ∧ W'.cell? ⟨g', k * 11 + 4, none⟩ = some (.int .i64 v1) ∧ W'.cell? ⟨g', k * 11 + 5, none⟩ = some (.int .i64 v2) ∧ W'.cell? ⟨g', k * 11 + 6, none⟩ = some (.int .i64 v3) ∧ W'.cell? ⟨g', k * 11 + 7, none⟩ = some (.int .i64 t) ∧ W'.cell? ⟨g', k * 11 + 8, none⟩ = some (.slice ad' pn' pcap') ∧ W'.cell? ⟨g', k * 11 + 9, none⟩ = some (.int .i64 n) ∧ W'.cell? ⟨g', k * 11 + 10, none⟩ = some (.int .i64 o)))
        (first | exact KK.out _ (by assumption) | exact KK.out _ (Below.refl _ _).drew | exact KK.out _ (Below.refl _ _))
        (first
          | (go_at_call 40; refine (CS.out _ (by first | assumption | exact (Below.refl _ _).drew | exact Below.refl _ _)).mono ?_; rintro e w9 ⟨rfl, hb9⟩))
      all_goals
        have BF := hid (HB.out.trans (hb9.mono HB.out.size))
        clear KK CS
        go_wp2_with fail
        go_roundg (l.length - (k + 1))
        case measure => omega
        case rel => exact ⟨k + 1, by omega, rfl, by go_num, BF.out⟩
    · have hki : ¬ ((k : Int) < (l.length : Int)) := by omega
      go_wp2_with fail
      go_ret
      exact ⟨rfl, HB.out⟩
end Go.Proofs.YtnbgjbdbbmpoaaaDoor.Jo
