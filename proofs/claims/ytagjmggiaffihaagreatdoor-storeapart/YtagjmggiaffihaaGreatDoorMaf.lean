/- Texts in one. -/
import Derived.Deep.RegionHeld3
import Derived.Test.YtagjmggiaffihaaGreatDoorMae
namespace Go.Proofs.YtagjmggiaffihaaGreatDoor.Rs
open Go.RowKit Go.Shelf Go.Maps
open Go.Proofs.YtagjmggiaffihaaGreatDoor.At (St bAl cell_blk blk_seen blk_free drewN_below an wi wo pow32 bits_or32 pow_le add balloc)
set_option maxHeartbeats 1600000 in
set_option maxRecDepth 100000 in
theorem same_any (W : World) (v u : Value) (l : List Prt) (h : PRow W v l) (h' : PRow W u l) (hl : l.length ≤ 900) :
    Calls Tryz.prog 20 #[v, u] W fun e W' => e = .returned (.bool true) ∧ Below W.heap.size W W' := by
  have H := hid h
  have H' := hid h'
  obtain ⟨a, c, rfl, -⟩ := h
  obtain ⟨a', c', rfl, -⟩ := h'
  have hli : (l.length : Int) ≤ 900 := by omega
  have nq := Co.neqP
  go_enter Tryz.func20, Tryz.ntmps20
  go_wp2_with fail
  go_loopg [5] l.length (fun gh i wr => ∃ k : Nat, k ≤ l.length ∧ gh = l.length - k ∧ i = .int .i64 (k : Int) ∧ Hid (Below W.heap.size W wr))
  case atStart => exact ⟨0, Nat.zero_le _, rfl, rfl, Below.refl _ _⟩
  case round =>
    rename World => wr
    obtain ⟨k, hk, rfl, rfl, HB⟩ := hrel
    by_cases hlt : k < l.length
    · have hki : (k : Int) < (l.length : Int) := by omega
      obtain ⟨p, hp⟩ := at_lt l k hlt
      obtain ⟨b, o, rfl, six⟩ := (H.out.later HB.out).at hp
      obtain ⟨b', o', rfl, six'⟩ := (H'.out.later HB.out).at hp
      obtain ⟨d0, d1, d2, d3, d4, d5⟩ := six
      obtain ⟨f0, f1, f2, f3, f4, f5⟩ := six'
      clear hp
      go_wp2_with fail
      go_quiet (fail)
      go_wp2_with fail
      go_roundg (l.length - (k + 1))
      case measure => omega
      case rel => exact ⟨k + 1, by omega, rfl, by go_num, HB.out.trans ((drewN_below _ _).mono HB.out.size)⟩
    · have hki : ¬ ((k : Int) < (l.length : Int)) := by omega
      go_wp2_with fail
      go_ret
      exact ⟨rfl, HB.out⟩
/-- The components' widths, to be read. -/
def WdRow (W : World) (v : Value) (ws : List Nat) : Prop := ∃ a c, v = .slice a ws.length c ∧ (ws = [] ∨ ∃ b o, a = some ⟨b, o, none⟩ ∧ ∀ (j : Nat) (x : Nat), ws[j]? = some x → W.cell? ⟨b, o + j * 7 + 1, none⟩ = some (.int .i64 (x : Int)))
theorem WdRow.later {W W' : World} {v : Value} {ws : List Nat} (h : WdRow W v ws) (hb : Below W.heap.size W W') : WdRow W' v ws := by
  obtain ⟨a, c, h1, h2⟩ := h
  refine ⟨a, c, h1, ?_⟩
  rcases h2 with h2 | ⟨b, o, h2, h3⟩
  · exact .inl h2
  · exact .inr ⟨b, o, h2, fun j p hj => At.seen hb (Nat.le_refl _) (h3 j p hj)⟩
def okW (ws : List Nat) : Prop := ws.length ≤ 16 ∧ ∀ w ∈ ws, 1 ≤ w ∧ w ≤ 4
def Prt.vals (p : Prt) : List Int := [p.v0, p.v1, p.v2, p.v3]
/-- Whether a part fits. -/
def fitP (ws : List Nat) (p : Prt) : Bool := decide (0 ≤ p.c) && match ws[p.c.toNat]? with
  | some w => (p.vals.drop w).all (· == 0)
  | none => false
theorem fit_out {ws : List Nat} {p : Prt} (h : p.c < 0 ∨ (ws.length : Int) ≤ p.c) : fitP ws p = false := by
  unfold fitP
  by_cases h0 : p.c < 0
  · rw [decide_eq_false (by omega)]; rfl
  · rw [List.getElem?_eq_none (by omega)]
    simp
theorem fit_in {ws : List Nat} {p : Prt} {n w : Nat} (hc : p.c = (n : Int)) (hw : ws[n]? = some w) : fitP ws p = (p.vals.drop w).all (· == 0) := by
  unfold fitP
  rw [hc, Int.toNat_natCast, hw]
  simp
theorem val_cell {W : World} {b k : Nat} {p : Prt} {e : TypeId} {x : Int} (h : W.heap[b]? = some (.cells p.arr e (0, 0))) (hx : p.vals[k]? = some x) : W.cell? ⟨b, 1 + k, none⟩ = some (.int .i64 x) := by
  refine cell_blk h ?_
  rw [Nat.add_comm]
  match k, hx with
  | 0, hx => simp [Prt.vals] at hx; subst hx; rfl
  | 1, hx => simp [Prt.vals] at hx; subst hx; rfl
  | 2, hx => simp [Prt.vals] at hx; subst hx; rfl
  | 3, hx => simp [Prt.vals] at hx; subst hx; rfl
  | k + 4, hx => simp [Prt.vals] at hx
theorem all_next {l : List Int} {w k : Nat} {x : Int} (hw : w ≤ k) (hx : l[k]? = some x) : (l.drop w).all (· == 0) = (((l.take k).drop w).all (· == 0) && ((x == 0) && (l.drop (k + 1)).all (· == 0))) := by
  obtain ⟨hl, rfl⟩ := List.getElem?_eq_some_iff.1 hx
  have e : l.drop w = (l.take k).drop w ++ l[k] :: l.drop (k + 1) := by
    have h1 : l = l.take k ++ l[k] :: l.drop (k + 1) := by
      rw [← List.drop_eq_getElem_cons hl, List.take_append_drop]
    have hlen : (l.take k).length = k := by simp; omega
    calc l.drop w = (l.take k ++ l[k] :: l.drop (k + 1)).drop w := by rw [← h1]
      _ = (l.take k).drop w ++ l[k] :: l.drop (k + 1) := by rw [List.drop_append_of_le_length (by omega)]
  rw [e, List.all_append, List.all_cons]
set_option maxHeartbeats 1600000 in
set_option maxRecDepth 100000 in
theorem fits_any (W : World) (va vb : Value) (hvb : ∃ a l c, vb = .slice a l c) (ws : List Nat) (p : Prt) (h : WdRow W va ws) (hok : okW ws) :
    Calls Tryz.prog 67 #[.agg #[va, vb], .agg #[.int .i64 p.c, .int .i64 p.v0, .int .i64 p.v1, .int .i64 p.v2, .int .i64 p.v3, .int .i64 p.t]] W fun e W' => e = .returned (.bool (fitP ws p)) ∧ Below W.heap.size W W' := by
  obtain ⟨ba, bl, bc, rfl⟩ := hvb
  have H0 := hid h
  obtain ⟨a, c, rfl, -⟩ := h
  obtain ⟨W2, hW2⟩ : ∃ W2, W2 = (W.alloc (.cells #[.slice a ws.length c, .slice ba bl bc] 25)).alloc (.cells p.arr 47) := ⟨_, rfl⟩
  have B2 : Hid (Below W.heap.size W W2) := by rw [hW2]; exact (bAl W _).alloc (by simp) _
  have K1 : Hid (W2.heap[W.heap.size]? = some (.cells #[.slice a ws.length c, .slice ba bl bc] 25 (0, 0))) := by
    rw [hW2]; exact (Below.heap_alloc _ _ _ (by simp)).trans (heap_alloc_new W _)
  have K2 : Hid (W2.heap[W.heap.size + 1]? = some (.cells p.arr 47 (0, 0))) := by
    rw [hW2]
    have := heap_alloc_new (W.alloc (.cells #[.slice a ws.length c, .slice ba bl bc] 25)) (.cells p.arr 47)
    rw [World.size_alloc] at this
    exact this
  have HW2 := hid hW2
  unfold Prt.arr at HW2
  clear hW2
  have H2 := hid (H0.out.later B2.out)
  have s0 : W2.cell? ⟨W.heap.size, 0, none⟩ = some (.slice a ws.length c) := cell_blk K1.out rfl
  obtain ⟨e0, e1, e2, e3, e4, e5⟩ := six_blk K2.out
  have hwl : (ws.length : Int) ≤ 16 := by have := hok.1; omega
  by_cases hin : p.c < 0 ∨ (ws.length : Int) ≤ p.c
  · have R := hid (fit_out (p := p) hin)
    rcases hin with hin | hin
    · go_enter Tryz.func67, Tryz.ntmps67
      go_upto_region 1 with fail
      rw [← HW2.out]
      go_wp2_with fail
      go_ret
      exact ⟨by rw [R.out]; rfl, B2.out⟩
    · have h0 : ¬ (p.c < 0) := by omega
      go_enter Tryz.func67, Tryz.ntmps67
      go_upto_region 1 with fail
      rw [← HW2.out]
      go_wp2_with fail
      go_ret
      exact ⟨by rw [R.out]; rfl, B2.out⟩
  · obtain ⟨n, hn⟩ : ∃ n : Nat, p.c = (n : Int) := Int.eq_ofNat_of_zero_le (by omega)
    have hnl : n < ws.length := by omega
    obtain ⟨w, hw⟩ := at_lt ws n hnl
    have hwk := hok.2 w (List.mem_of_getElem? hw)
    have R := hid (fit_in hn hw)
    obtain ⟨b, o, rfl, dw⟩ : ∃ b o, a = some ⟨b, o, none⟩ ∧ W2.cell? ⟨b, o + n * 7 + 1, none⟩ = some (.int .i64 (w : Int)) := by
      obtain ⟨a', c', h1, h2⟩ := H2.out
      obtain ⟨rfl, rfl⟩ : a = a' ∧ c = c' := by simpa using h1
      rcases h2 with h2 | ⟨b, o, h2, h3⟩
      · rw [h2] at hw; simp at hw
      · exact ⟨b, o, h2, h3 n w hw⟩
    have g0 : ¬ ((n : Int) < 0) := by omega
    have g1 : ¬ ((ws.length : Int) ≤ (n : Int)) := by omega
    have g2 : (n : Int) < (ws.length : Int) := by omega
    rw [hn] at e0
    have HN := hid hn
    clear hn hin hw hok
    rw [HN.out]
    go_enter Tryz.func67, Tryz.ntmps67
    go_upto_region 1 with fail
    rw [← HN.out, ← HW2.out, HN.out]
    go_wp2_with fail
    go_loopg [5] (4 - w) (fun gh i wr => ∃ k : Nat, w ≤ k ∧ k ≤ 4 ∧ gh = 4 - k ∧ i = .int .i64 (k : Int) ∧ Hid (((p.vals.take k).drop w).all (· == 0) = true) ∧ wr = W2)
    case atStart => exact ⟨w, Nat.le_refl _, hwk.2, rfl, rfl, by show _ = true; rw [List.drop_of_length_le (by simp; omega)]; rfl, rfl⟩
    case round =>
      obtain ⟨k, hwk', hk, rfl, rfl, HA, rfl⟩ := hrel
      by_cases hlt : k < 4
      · have hki : (k : Int) < 4 := by omega
        obtain ⟨x, hx⟩ := at_lt p.vals k (by simp [Prt.vals]; omega)
        have d0 := val_cell K2.out hx
        have AN := hid (all_next hwk' hx)
        have TN : Hid (((p.vals.take (k + 1)).drop w).all (· == 0) = (((p.vals.take k).drop w).all (· == 0) && (x == 0))) := by
          show _ = _
          obtain ⟨hl, rfl⟩ := List.getElem?_eq_some_iff.1 hx
          rw [List.take_succ_eq_append_getElem hl, List.drop_append_of_le_length (by simp; omega), List.all_append]
          simp
        clear hx
        by_cases hx0 : x = 0
        · have q : (x == 0) = true := by simp [hx0]
          rw [HA.out, q] at TN
          clear hx0
          go_wp2_with fail
          go_roundg (4 - (k + 1))
          case measure => omega
          case rel => exact ⟨k + 1, by omega, by omega, rfl, by go_num, TN.out, rfl⟩
        · have q : (x == 0) = false := by simp [hx0]
          rw [q, Bool.false_and, Bool.and_false] at AN
          clear hx0
          go_wp2_with fail
          go_ret
          exact ⟨by rw [R.out, AN.out]; rfl, B2.out⟩
      · have hki : ¬ ((k : Int) < 4) := by omega
        have E : Hid ((p.vals.drop w).all (· == 0) = true) := by
          have := HA.out
          rw [List.take_of_length_le (by simp [Prt.vals]; omega)] at this
          exact this
        go_wp2_with fail
        go_ret
        exact ⟨by rw [R.out, E.out]; rfl, B2.out⟩
end Go.Proofs.YtagjmggiaffihaaGreatDoor.Rs
namespace Go.Proofs.YtagjmggiaffihaaGreatDoor.Rs
open Go.RowKit Go.Shelf Go.Maps
open Go.Proofs.YtagjmggiaffihaaGreatDoor.At (St bAl cell_blk blk_seen blk_free drewN_below an wi wo pow32 bits_or32 pow_le add balloc)
theorem st_ro {S : Nat → Prop} {a b : World} (h : St S a b) : Ro.St S a b := ⟨h.os, h.tape, h.output, h.size, h.block⟩
theorem ro_st {S : Nat → Prop} {a b : World} (h : Ro.St S a b) : St S a b := ⟨h.os, h.tape, h.output, h.size, h.block⟩
/-- What the document's store holds. -/
structure SD where
  ws : List Nat
  r : Ro.RS
  p : List (List Prt)
  sets : List Nat
/-- Widths in a block below B. -/
def WdLow (B : Nat) (W : World) (v : Value) (ws : List Nat) : Prop := ∃ a c, v = .slice a ws.length c ∧ (ws = [] ∨ ∃ b o, a = some ⟨b, o, none⟩ ∧ b < B ∧ ∀ (j : Nat) (x : Nat), ws[j]? = some x → W.cell? ⟨b, o + j * 7 + 1, none⟩ = some (.int .i64 (x : Int)))
theorem WdLow.row {B : Nat} {W : World} {v : Value} {ws : List Nat} (h : WdLow B W v ws) : WdRow W v ws := by
  obtain ⟨a, c, h1, h2⟩ := h
  refine ⟨a, c, h1, ?_⟩
  rcases h2 with h2 | ⟨b, o, h2, -, h3⟩
  · exact .inl h2
  · exact .inr ⟨b, o, h2, h3⟩
theorem WdLow.move {B : Nat} {W W' : World} {v : Value} {ws : List Nat} (h : WdLow B W v ws) (hb : Below B W W') : WdLow B W' v ws := by
  obtain ⟨a, c, h1, h2⟩ := h
  refine ⟨a, c, h1, ?_⟩
  rcases h2 with h2 | ⟨b, o, h2, h0, h3⟩
  · exact .inl h2
  · exact .inr ⟨b, o, h2, h0, fun j x hx => (hb.cell (p := ⟨b, o + j * 7 + 1, none⟩) h0).trans (h3 j x hx)⟩
/-- Where the store's pieces lie. -/
structure SV where
  va : Value
  vb : Value
  rb : Nat
  gb : Nat
  ib : Nat
  fv : Value
  t : Nat
  pv : List Value
  sv : Value
def SV.cells (x : SV) : List Value := x.va :: x.vb :: .pointer (some ⟨x.rb, 0, none⟩) :: (x.pv ++ [x.sv])
/-- The store's blocks. -/
def SV.fp (x : SV) (ub k : Nat) : Prop := k = ub ∨ Ro.Fu x.rb x.gb x.ib x.fv k ∨ (∃ v ∈ x.pv, v.ownBlock = some k) ∨ x.sv.ownBlock = some k
/-- A row of parts that a store can hold: by rising components, each of which there is. -/
def okL (ws : List Nat) (l : List Prt) : Prop := l.Pairwise (fun x y => x.c < y.c) ∧ ∀ x ∈ l, 0 ≤ x.c ∧ x.c < (ws.length : Int)
structure Sb (B : Nat) (W : World) (ub : Nat) (x : SV) (s : SD) : Prop where
  box : W.heap[ub]? = some (.cells x.cells.toArray 81 (0, 0))
  low : B ≤ ub
  wd : WdLow B W x.va s.ws
  vb : ∃ a l c, x.vb = .slice a l c
  okw : okW s.ws
  roll : Ro.Rr B W x.rb x.gb x.ib x.fv x.t s.r
  n1 : x.pv.length = 64
  n2 : s.p.length = 64
  rows : ∀ (i : Nat) v l, x.pv[i]? = some v → s.p[i]? = some l → Prts B W v l
  okp : ∀ l ∈ s.p, okL s.ws l
  sets : At.Msk B W x.sv s.sets
theorem Prts.blk {B : Nat} {W : World} {v : Value} {l : List Prt} (h : Prts B W v l) {k : Nat} (hk : v.ownBlock = some k) : ∃ c fr, W.heap[k]? = some (.cells c 47 fr) := by
  rcases h.2 with ⟨h1, -⟩ | ⟨g, cap, cur, h1, h2, h3, h4⟩
  · rw [h1] at hk; simp [Value.ownBlock] at hk
  · rw [h1] at hk
    obtain rfl : g = k := by simpa [Value.ownBlock] using hk
    exact ⟨_, _, h3⟩
theorem msk_blk {B : Nat} {W : World} {v : Value} {l : List Nat} (h : At.Msk B W v l) {k : Nat} (hk : v.ownBlock = some k) : ∃ c fr, W.heap[k]? = some (.cells c 49 fr) := by
  rcases h.2 with ⟨h1, -⟩ | ⟨g, cap, cur, h1, h2, h3, h4⟩
  · rw [h1] at hk; simp [Value.ownBlock] at hk
  · rw [h1] at hk
    obtain rfl : g = k := by simpa [Value.ownBlock] using hk
    exact ⟨_, _, h3⟩
theorem int_blk {B : Nat} {W : World} {v : Value} {n : Nat} {l : List Value} (h : W.ownsRow B 3 1 v n l) {k : Nat} (hk : v.ownBlock = some k) : ∃ c fr, W.heap[k]? = some (.cells c 3 fr) := by
  rcases h.2 with ⟨h1, -⟩ | ⟨g, cap, cur, h1, h2, h3, h4⟩
  · rw [h1] at hk; simp [Value.ownBlock] at hk
  · rw [h1] at hk
    obtain rfl : g = k := by simpa [Value.ownBlock] using hk
    exact ⟨_, _, h3⟩
section
variable {B : Nat} {W W' : World} {ub : Nat} {x : SV} {s : SD}
theorem Sb.row_at (h : Sb B W ub x s) {v : Value} (hv : v ∈ x.pv) : ∃ l, Prts B W v l := by
  obtain ⟨i, hi, rfl⟩ := List.getElem_of_mem hv
  obtain ⟨l, hl⟩ := at_lt s.p i (by rw [h.n2, ← h.n1]; exact hi)
  exact ⟨l, h.rows i _ l (List.getElem?_eq_getElem hi) hl⟩
theorem Sb.lt (h : Sb B W ub x s) (k : Nat) (hk : x.fp ub k) : B ≤ k ∧ k < W.heap.size := by
  rcases hk with rfl | hk | ⟨v, hv, hk⟩ | hk
  · exact ⟨h.low, (Array.getElem?_eq_some_iff.1 h.box).1⟩
  · exact h.roll.lt k hk
  · obtain ⟨l, hl⟩ := h.row_at hv
    exact hl.lt k hk
  · exact World.ownsRow.lt h.sets k hk
theorem Sb.kept {T : Nat → Prop} (h : Sb B W ub x s) (hs : St T W W') (hd : ∀ k, x.fp ub k → ¬ T k) (hb : Below B W W') : Sb B W' ub x s where
  box := hs.at h.box (hd _ (.inl rfl))
  low := h.low
  wd := h.wd.move hb
  vb := h.vb
  okw := h.okw
  roll := h.roll.kept (st_ro hs) fun k hk => hd k (.inr (.inl hk))
  n1 := h.n1
  n2 := h.n2
  rows := fun i v l hv hl => (h.rows i v l hv hl).kept hs fun k hk => hd k (.inr (.inr (.inl ⟨v, List.mem_of_getElem? hv, hk⟩)))
  okp := h.okp
  sets := h.sets.kept hs fun k hk => hd k (.inr (.inr (.inr hk)))
theorem Sb.big (h : Sb B W ub x s) : B ≤ W.heap.size := Nat.le_trans h.low (Nat.le_of_lt (Array.getElem?_eq_some_iff.1 h.box).1)
theorem Sb.later (h : Sb B W ub x s) (hb : Below W.heap.size W W') : Sb B W' ub x s := h.kept (T := fun _ => False) (St.of_below hb) (fun _ _ q => q) (hb.mono h.big)
/-- The roll's blocks and the store's own are none of a row's. -/
theorem Sb.apart (h : Sb B W ub x s) {k : Nat} (hk : Ro.Fu x.rb x.gb x.ib x.fv k) : k ≠ ub ∧ (∀ v ∈ x.pv, v.ownBlock ≠ some k) ∧ x.sv.ownBlock ≠ some k := by
  have ty : ∃ c fr t, W.heap[k]? = some (.cells c t fr) ∧ t ≠ 81 ∧ t ≠ 47 ∧ t ≠ 49 := by
    rcases hk with rfl | rfl | rfl | hk
    · exact ⟨_, _, _, h.roll.box, by decide, by decide, by decide⟩
    · exact ⟨_, _, _, h.roll.gens, by decide, by decide, by decide⟩
    · exact ⟨_, _, _, h.roll.isb, by decide, by decide, by decide⟩
    · obtain ⟨c, fr, e⟩ := int_blk h.roll.free hk
      exact ⟨_, _, _, e, by decide, by decide, by decide⟩
  obtain ⟨c, fr, t, e, t1, t2, t3⟩ := ty
  refine ⟨fun q => ?_, fun v hv q => ?_, fun q => ?_⟩
  · rw [q, h.box] at e
    simp at e
    exact t1 e.2.1.symm
  · obtain ⟨l, hl⟩ := h.row_at hv
    obtain ⟨c', fr', e'⟩ := hl.blk q
    rw [e'] at e
    simp at e
    exact t2 e.2.1.symm
  · obtain ⟨c', fr', e'⟩ := msk_blk h.sets q
    rw [e'] at e
    simp at e
    exact t3 e.2.1.symm
theorem Sb.own (h : Sb B W ub x s) : (∀ v ∈ x.pv, v.ownBlock ≠ some ub) ∧ x.sv.ownBlock ≠ some ub := by
  refine ⟨fun v hv q => ?_, fun q => ?_⟩
  · obtain ⟨l, hl⟩ := h.row_at hv
    obtain ⟨c', fr', e'⟩ := hl.blk q
    rw [h.box] at e'
    simp at e'
  · obtain ⟨c', fr', e'⟩ := msk_blk h.sets q
    rw [h.box] at e'
    simp at e'
theorem Sb.cell (h : Sb B W ub x s) {j : Nat} {v : Value} (hv : x.cells[j]? = some v) : W.cell? ⟨ub, j, none⟩ = some v := cell_blk h.box (by simpa using hv)
theorem Sb.c0 (h : Sb B W ub x s) : W.cell? ⟨ub, 0, none⟩ = some x.va := h.cell rfl
theorem Sb.c1 (h : Sb B W ub x s) : W.cell? ⟨ub, 1, none⟩ = some x.vb := h.cell rfl
theorem Sb.c2 (h : Sb B W ub x s) : W.cell? ⟨ub, 2, none⟩ = some (.pointer (some ⟨x.rb, 0, none⟩)) := h.cell rfl
theorem Sb.cp (h : Sb B W ub x s) {i : Nat} {v : Value} (hv : x.pv[i]? = some v) : W.cell? ⟨ub, 3 + i, none⟩ = some v := by
  refine h.cell ?_
  have hi := (List.getElem?_eq_some_iff.1 hv).1
  rw [show 3 + i = i + 3 by omega]
  show (x.pv ++ [x.sv])[i]? = some v
  rw [List.getElem?_append_left hi]
  exact hv
theorem Sb.cs (h : Sb B W ub x s) : W.cell? ⟨ub, 67, none⟩ = some x.sv := by
  refine h.cell ?_
  show (x.pv ++ [x.sv])[64]? = some x.sv
  rw [List.getElem?_append_right (by rw [h.n1]; omega), h.n1]
  rfl
/-- The store behind a change. -/
structure Gs (B : Nat) (W : World) (ub : Nat) (x : SV) (W' : World) (x' : SV) (s' : SD) : Prop where
  sb : Sb B W' ub x' s'
  st : St (x.fp ub) W W'
  new : ∀ k, x'.fp ub k → x.fp ub k ∨ W.heap.size ≤ k
theorem Gs.below {x' : SV} {s' : SD} (h : Gs B W ub x W' x' s') (h0 : Sb B W ub x s) : Below B W W' := h.st.below (fun k hk => (h0.lt k hk).1) h0.big
theorem Gs.stay (h : Sb B W ub x s) (hb : Below W.heap.size W W') : Gs B W ub x W' x s := ⟨h.later hb, St.of_below hb, fun _ q => .inl q⟩
theorem Gs.then {W1 W2 : World} {x1 x2 : SV} {s1 s2 : SD} (h : Gs B W ub x W1 x1 s1) (k : Gs B W1 ub x1 W2 x2 s2) : Gs B W ub x W2 x2 s2 :=
  ⟨k.sb, h.st.trans k.st fun y hy hf => (h.new y hf).elim id fun q => by omega, fun y hy => (k.new y hy).elim (h.new y) fun q => .inr (Nat.le_trans h.st.size q)⟩
end
end Go.Proofs.YtagjmggiaffihaaGreatDoor.Rs
namespace Go.Proofs.YtagjmggiaffihaaGreatDoor.Rs
open Go.RowKit Go.Shelf Go.Maps
open Go.Proofs.YtagjmggiaffihaaGreatDoor.At (St bAl cell_blk blk_seen blk_free drewN_below an wi wo pow32 bits_or32 pow_le add balloc)
section
variable {B : Nat} {W0 W W' : World} {ub : Nat} {x : SV} {s : SD}
theorem Sb.put_row (h0 : Sb B W0 ub x s) (hb : Below W0.heap.size W0 W) {i : Nat} {v : Value} {l : List Prt} (hi : i < 64) (hv : Prts W0.heap.size W v l) (hl : okL s.ws l) :
    Gs B W0 ub x (W.setCell ⟨ub, 3 + i, none⟩ v) { x with pv := x.pv.set i v } { s with p := s.p.set i l } := by
  have h := h0.later hb
  have hu := (h0.lt ub (.inl rfl)).2
  have s1 : St (fun k => k = ub) W (W.setCell ⟨ub, 3 + i, none⟩ v) := St.setCell _ rfl
  have e1 : x.cells.toArray.setIfInBounds (3 + i) v = (SV.cells { x with pv := x.pv.set i v }).toArray := by
    rw [List.setIfInBounds_toArray]
    congr 1
    rw [show 3 + i = i + 3 by omega]
    show _ :: _ :: _ :: ((x.pv ++ [x.sv]).set i v) = _
    rw [List.set_append_left _ _ (by rw [h.n1]; exact hi)]
    rfl
  refine ⟨⟨?_, h.low, h.wd.move (s1.below (fun k hk => hk ▸ h.low) h.big), h.vb, h.okw, h.roll.kept (st_ro s1) (fun k hk e => (h.apart hk).1 e), ?_, ?_, ?_, ?_, h.sets.kept s1 fun k hk e => h.own.2 (e ▸ hk)⟩, ?_, ?_⟩
  · rw [← e1]
    exact heap_setCell_same W ub (3 + i) _ 81 v h.box
  · simp [h.n1]
  · simp [h.n2]
  · intro j u q hu' hq
    by_cases e : i = j
    · subst e
      simp only [List.getElem?_set_self (show i < x.pv.length by rw [h.n1]; exact hi), Option.some.injEq] at hu'
      simp only [List.getElem?_set_self (show i < s.p.length by rw [h.n2]; exact hi), Option.some.injEq] at hq
      subst hu' hq
      exact (hv.lower h0.big).kept s1 fun k hk e => by
        have := (hv.lt k hk).1
        omega
    · simp only [List.getElem?_set_ne e] at hu' hq
      exact (h.rows j u q hu' hq).kept s1 fun k hk e => h.own.1 u (List.mem_of_getElem? hu') (e ▸ hk)
  · intro q hq
    rcases List.mem_or_eq_of_mem_set hq with hq | rfl
    · exact h.okp q hq
    · exact hl
  · exact (St.of_below (S := x.fp ub) hb).trans s1 fun k _ hk => .inl hk
  · rintro k (rfl | hk | ⟨u, hu', hk⟩ | hk)
    · exact .inl (.inl rfl)
    · exact .inl (.inr (.inl hk))
    · rcases List.mem_or_eq_of_mem_set hu' with hu' | rfl
      · exact .inl (.inr (.inr (.inl ⟨u, hu', hk⟩)))
      · exact .inr (hv.lt k hk).1
    · exact .inl (.inr (.inr (.inr hk)))
theorem Sb.put_sets (h0 : Sb B W0 ub x s) (hb : Below W0.heap.size W0 W) {v : Value} {l : List Nat} (hv : At.Msk W0.heap.size W v l) :
    Gs B W0 ub x (W.setCell ⟨ub, 67, none⟩ v) { x with sv := v } { s with sets := l } := by
  have h := h0.later hb
  have hu := (h0.lt ub (.inl rfl)).2
  have s1 : St (fun k => k = ub) W (W.setCell ⟨ub, 67, none⟩ v) := St.setCell _ rfl
  have e1 : x.cells.toArray.setIfInBounds 67 v = (SV.cells { x with sv := v }).toArray := by
    rw [List.setIfInBounds_toArray]
    congr 1
    show _ :: _ :: _ :: ((x.pv ++ [x.sv]).set 64 v) = _
    rw [List.set_append_right _ _ (by rw [h.n1]; omega), h.n1]
    rfl
  refine ⟨⟨?_, h.low, h.wd.move (s1.below (fun k hk => hk ▸ h.low) h.big), h.vb, h.okw, h.roll.kept (st_ro s1) (fun k hk e => (h.apart hk).1 e), h.n1, h.n2, fun j u q hu' hq => (h.rows j u q hu' hq).kept s1 fun k hk e => h.own.1 u (List.mem_of_getElem? hu') (e ▸ hk), h.okp, ?_⟩, ?_, ?_⟩
  · rw [← e1]
    exact heap_setCell_same W ub 67 _ 81 v h.box
  · exact (hv.lower h0.big).kept s1 fun k hk e => by
      have := (World.ownsRow.lt hv k hk).1
      omega
  · exact (St.of_below (S := x.fp ub) hb).trans s1 fun k _ hk => .inl hk
  · rintro k (rfl | hk | hk | hk)
    · exact .inl (.inl rfl)
    · exact .inl (.inr (.inl hk))
    · exact .inl (.inr (.inr (.inl hk)))
    · exact .inr (World.ownsRow.lt hv k hk).1
end
/-- A set that there was. -/
def SD.noted (s : SD) (m : Nat) : SD := { s with sets := add s.sets m }
set_option maxHeartbeats 1600000 in
set_option maxRecDepth 100000 in
theorem note_any {B : Nat} {W : World} {ub : Nat} {x : SV} {s : SD} (h : Sb B W ub x s) (m : Nat) (hn : s.sets.length ≤ 1000) :
    Calls Tryz.prog 71 #[.pointer (some ⟨ub, 0, none⟩), .int .u32 (m : Int)] W fun e W' => e = .returned (.tuple #[]) ∧ ∃ x', Gs B W ub x W' x' (s.noted m) := by
  have H := hid h
  obtain ⟨la, lc, hsv⟩ := h.sets.slice
  have c1 := h.cs
  rw [hsv] at c1
  have hd : (s.sets.length : Int) ≤ 1000 := by omega
  go_enter Tryz.func71, Tryz.ntmps71
  go_wp2_with fail
  go_loopg [4] s.sets.length (fun gh i wr => ∃ k : Nat, k ≤ s.sets.length ∧ gh = s.sets.length - k ∧ i = .int .i64 (k : Int) ∧ Hid (k ≤ s.sets.idxOf m) ∧ wr = W)
  case atStart => exact ⟨0, Nat.zero_le _, rfl, rfl, Nat.zero_le _, rfl⟩
  case round =>
    obtain ⟨k, hk, rfl, rfl, HK, rfl⟩ := hrel
    by_cases hlt : k < s.sets.length
    · have hki : (k : Int) < (s.sets.length : Int) := by omega
      obtain ⟨a, ha⟩ := at_lt s.sets k hlt
      have HM := H.out.sets
      rw [hsv] at HM
      obtain ⟨g, rfl, d0⟩ := At.Msk.cell HM ha
      by_cases e : a = m
      · subst e
        have PE : Hid (s.noted a = s) := by show s.noted a = s; unfold SD.noted add; rw [if_pos (List.mem_of_getElem? ha)]
        clear ha HM
        go_wp2_with fail
        (try simp only [Exit.inBlock, Exit.then]); refine bodyPost_ret (results_none rfl _ _ _) rfl ?_
        refine ⟨rfl, x, ?_⟩
        rw [PE.out]
        exact Gs.stay H.out (Below.refl _ _)
      · have q : (((a : Nat) : Int) == (m : Int)) = false := by rw [beq_eq_false_iff_ne]; exact_mod_cast e
        have HK' : Hid (k + 1 ≤ s.sets.idxOf m) := by
          show k + 1 ≤ s.sets.idxOf m
          refine Nat.lt_of_le_of_ne HK.out fun ek => ?_
          have hmem : m ∈ s.sets := List.idxOf_lt_length_iff.1 (by omega)
          have := At.idx_get hmem
          rw [← ek, ha] at this
          exact e (by simpa using this)
        clear e ha HM
        go_wp2_with fail
        go_roundg (s.sets.length - (k + 1))
        case measure => omega
        case rel => exact ⟨k + 1, by omega, rfl, by go_num, HK'.out, rfl⟩
    · have hki : ¬ ((k : Int) < (s.sets.length : Int)) := by omega
      have hml : m ∉ s.sets := fun q => by
        have := List.idxOf_lt_length_of_mem q
        have := HK.out
        omega
      have PE : Hid (s.noted m = { s with sets := s.sets ++ [m] }) := by show s.noted m = _; unfold SD.noted add; rw [if_neg hml]
      rename World => W
      have HM := H.out.sets
      rw [hsv] at HM
      have ul := (H.out.lt ub (.inl rfl)).2
      have un : ¬ (ub = W.heap.size) := by omega
      have b1 := bAl W (.cells #[] 49)
      have O1 := hid (At.msk_none W)
      have S1 := hid (At.Msk.later HM b1)
      have B1 := hid b1
      have hl1 : ([] : List Nat).length + s.sets.length ≤ 200000 := by simp; omega
      have hl2 : s.sets.length + [m].length ≤ 200000 := by simp; omega
      have KU : Hid (∀ W', Below W.heap.size W W' → W'.cell? ⟨ub, 67, none⟩ = some (.slice la s.sets.length lc) ∧ W'.frozen? ⟨ub, 67, none⟩ = false) := fun W' hb => by
        have b := H.out.later hb
        have c := b.cs
        rw [hsv] at c
        exact ⟨c, blk_free b.box 67⟩
      clear HM b1 hml hd HK
      go_wp2_with (first
        | (at_builtin; refine At.wpList_msk (xs := []) (w2 := W) rfl _ _ rfl B1.out O1.out S1.out hl1 rfl rfl ?_; intro v4 w4 H4 HB4; clear O1; obtain ⟨a4, c4, rfl⟩ := At.Msk.slice H4.out)
        | (at_builtin; refine At.wpList_msk (xs := s.sets) (ns := [m]) (w2 := W) rfl _ _ rfl (HB4.out.trans ((bAl w4 _).mono HB4.out.size)) (At.Msk.later H4.out (bAl w4 _)) (At.msk_one w4 m) hl2 rfl rfl ?_; intro v5 w5 H5 HB5; obtain ⟨a5, c5, rfl⟩ := At.Msk.slice H5.out; have ku := (KU.out _ HB5.out).1; have kf := (KU.out _ HB5.out).2))
      have FN := hid (H.out.put_sets HB5.out H5.out)
      go_end0
      rw [PE.out]
      have fn := FN.out
      rw [show (s.sets ++ [m]).length = s.sets.length + 1 by simp] at fn
      exact ⟨rfl, _, fn⟩
end Go.Proofs.YtagjmggiaffihaaGreatDoor.Rs
namespace Go.Proofs.YtagjmggiaffihaaGreatDoor.Rs
open Go.RowKit Go.Shelf Go.Maps
open Go.Proofs.YtagjmggiaffihaaGreatDoor.At (St bAl cell_blk blk_seen blk_free drewN_below an wi wo pow32 bits_or32 pow_le add balloc)
/-- The parts of a place. -/
def SD.at (s : SD) (k : Nat) : List Prt := s.p.getD k []
section
variable {B : Nat} {W W' : World} {ub : Nat} {x : SV} {s : SD}
theorem Sb.place (h : Sb B W ub x s) {k : Nat} (hk : k < 64) : ∃ v, x.pv[k]? = some v ∧ W.cell? ⟨ub, 3 + k, none⟩ = some v ∧ Prts B W v (s.at k) ∧ okL s.ws (s.at k) := by
  obtain ⟨v, hv⟩ := at_lt x.pv k (by rw [h.n1]; exact hk)
  obtain ⟨l, hl⟩ := at_lt s.p k (by rw [h.n2]; exact hk)
  have e : s.at k = l := by unfold SD.at; rw [List.getD_eq_getElem?_getD, hl]; rfl
  exact ⟨v, hv, h.cp hv, e ▸ h.rows k v l hv hl, e ▸ h.okp l (List.mem_of_getElem? hl)⟩
theorem alive_lt {r : Ro.RS} {i g : Int} (h : r.aliveB i g = true) : ∃ k : Nat, i = (k : Int) ∧ k < r.gens.length := by
  obtain ⟨h0, _, _, d⟩ := (Ro.RS.aliveB_iff _ _ _).1 h
  obtain ⟨k, rfl⟩ := Int.eq_ofNat_of_zero_le h0
  exact ⟨k, rfl, by simpa using (List.getElem?_eq_some_iff.1 d).1⟩
end
theorem okL_few {ws : List Nat} {l : List Prt} (h : okL ws l) (hw : ws.length ≤ 16) : l.length ≤ 16 := by
  suffices q : ∀ (l : List Prt) (n : Nat), l.Pairwise (fun x y => x.c < y.c) → (∀ x ∈ l, (n : Int) ≤ x.c ∧ x.c < 16) → n ≤ 16 → l.length + n ≤ 16 from by
    have := q l 0 h.1 (fun x hx => ⟨(h.2 x hx).1, by have := (h.2 x hx).2; omega⟩) (by omega)
    omega
  intro l
  induction l with
  | nil => intro n _ _ hn; simpa using hn
  | cons y l ih =>
    intro n hp hb hn
    rw [List.pairwise_cons] at hp
    have hy := hb y List.mem_cons_self
    have := ih (n + 1) hp.2 (fun z hz => ⟨by have := hp.1 z hz; have := hy.1; omega, (hb z (List.mem_cons_of_mem _ hz)).2⟩) (by omega)
    simp only [List.length_cons]
    omega
theorem okL_okC {ws : List Nat} {l : List Prt} (h : okL ws l) (hw : ws.length ≤ 16) : okC l := fun x hx => ⟨(h.2 x hx).1, by have := (h.2 x hx).2; omega⟩
/-- What Get tells. -/
def SD.get (s : SD) (i g comp : Int) : Prt × Int := if s.r.aliveB i g then (match (s.at i.toNat)[ix (s.at i.toNat) comp]? with
  | some p => (p, 0)
  | none => (Prt.zero, 7)) else (Prt.zero, 17)
/-- A part's cells set anew. -/
def six (w : World) (b : Nat) (p : Prt) : World := (((((w.setCell ⟨b, 0, none⟩ (.int .i64 p.c)).setCell ⟨b, 1, none⟩ (.int .i64 p.v0)).setCell ⟨b, 2, none⟩ (.int .i64 p.v1)).setCell ⟨b, 3, none⟩ (.int .i64 p.v2)).setCell ⟨b, 4, none⟩ (.int .i64 p.v3)).setCell ⟨b, 5, none⟩ (.int .i64 p.t)
theorem six_set {w : World} {b : Nat} {q p : Prt} {e : TypeId} (h : w.heap[b]? = some (.cells q.arr e (0, 0))) : (six w b p).heap[b]? = some (.cells p.arr e (0, 0)) ∧ ∀ B, B ≤ b → Below B w (six w b p) := by
  have h1 := heap_setCell_same w b 0 _ e (.int .i64 p.c) h
  have h2 := heap_setCell_same _ b 1 _ e (.int .i64 p.v0) h1
  have h3 := heap_setCell_same _ b 2 _ e (.int .i64 p.v1) h2
  have h4 := heap_setCell_same _ b 3 _ e (.int .i64 p.v2) h3
  have h5 := heap_setCell_same _ b 4 _ e (.int .i64 p.v3) h4
  have h6 := heap_setCell_same _ b 5 _ e (.int .i64 p.t) h5
  refine ⟨h6, fun B hB => ?_⟩
  have c := fun (w : World) (j : Nat) (v : Value) => St.setCell (S := fun k => k = b) (a := w) (p := ⟨b, j, none⟩) v rfl
  have st : St (fun k => k = b) w (six w b p) := (((((c w 0 _).trans (c _ 1 _) fun _ _ q => q).trans (c _ 2 _) fun _ _ q => q).trans (c _ 3 _) fun _ _ q => q).trans (c _ 4 _) fun _ _ q => q).trans (c _ 5 _) fun _ _ q => q
  exact st.below (fun k hk => hk ▸ hB) (Nat.le_trans hB (Nat.le_of_lt (Array.getElem?_eq_some_iff.1 h).1))
theorem two_blk (W : World) (a b : Array Value) (e f : TypeId) : Below W.heap.size W ((W.alloc (.cells a e)).alloc (.cells b f)) ∧ ((W.alloc (.cells a e)).alloc (.cells b f)).heap[W.heap.size]? = some (.cells a e (0, 0)) ∧ ((W.alloc (.cells a e)).alloc (.cells b f)).heap[W.heap.size + 1]? = some (.cells b f (0, 0)) := by
  refine ⟨(bAl W _).alloc (by simp) _, (Below.heap_alloc _ _ _ (by simp)).trans (heap_alloc_new W _), ?_⟩
  have := heap_alloc_new (W.alloc (.cells a e)) (.cells b f)
  rw [World.size_alloc] at this
  exact this
set_option maxHeartbeats 1600000 in
set_option maxRecDepth 100000 in
theorem get_dead {B : Nat} {W : World} {ub : Nat} {x : SV} {s : SD} (h : Sb B W ub x s) (i g comp : Int) (ha : s.r.aliveB i g = false) :
    Calls Tryz.prog 39 #[.pointer (some ⟨ub, 0, none⟩), .agg #[.int .i64 i, .int .i64 g], .int .i64 comp] W fun e W' => e = .returned (.tuple #[Prt.zero.val, .int .i64 17]) ∧ Below W.heap.size W W' := by
  obtain ⟨b2, k1, k2⟩ := two_blk W #[.int .i64 i, .int .i64 g] Prt.zero.arr 43 47
  obtain ⟨W2, hW2⟩ : ∃ W2, W2 = (W.alloc (.cells #[.int .i64 i, .int .i64 g] 43)).alloc (.cells Prt.zero.arr 47) := ⟨_, rfl⟩
  rw [← hW2] at b2 k1 k2
  have HW2 := hid hW2
  unfold Prt.arr Prt.zero at HW2
  clear hW2
  have h2 := h.later b2
  have AL := hid (Ro.ralive_any (h2.later (Below.refl _ W2).drew).roll i g)
  rw [ha] at AL
  have c2 := h2.c2
  have e0 : W2.cell? ⟨W.heap.size, 0, none⟩ = some (.int .i64 i) := cell_blk k1 (j := 0) rfl
  have e1 : W2.cell? ⟨W.heap.size, 1, none⟩ = some (.int .i64 g) := cell_blk k1 (j := 1) rfl
  have B2 := hid b2
  clear h ha h2 k1 b2
  go_enter Tryz.func39, Tryz.ntmps39
  go_wp2_with fail
  rw [← HW2.out]
  go_region_held3 (fun W' => W'.cell? ⟨ub, 2, none⟩ = some (.pointer (some ⟨x.rb, 0, none⟩)) ∧ W'.cell? ⟨W.heap.size, 0, none⟩ = some (.int .i64 i) ∧ W'.cell? ⟨W.heap.size, 1, none⟩ = some (.int .i64 g)) (go_keep) (first | (go_at_call 41; refine AL.out.mono ?_; rintro e w3 ⟨rfl, hb3⟩; have d2 := At.seen (W := W2.drew) hb3 (Nat.le_refl _) c2; have f0 := At.seen (W := W2.drew) hb3 (Nat.le_refl _) e0; have f1 := At.seen (W := W2.drew) hb3 (Nat.le_refl _) e1))
  have k3 := blk_seen (W := W2.drew) hb3 (Nat.le_refl _) k2
  have B3 := hid (B2.out.trans (((Below.refl _ W2).drew.trans hb3).mono B2.out.size))
  obtain ⟨p0, p1, p2, p3, p4, p5⟩ := six_blk k3
  have fr := fun j => blk_free k3 j
  clear d2 f0 f1 hb3 AL c2 e0 e1 B2
  go_wp2_with fail
  obtain ⟨w4, hw4⟩ : ∃ w4, w4 = six w3 (W.heap.size + 1) Prt.zero := ⟨_, rfl⟩
  obtain ⟨k4, b4⟩ := six_set k3 (p := Prt.zero)
  rw [← hw4] at k4 b4
  unfold six Prt.zero at hw4
  dsimp only at hw4
  rw [← hw4]
  obtain ⟨p0, p1, p2, p3, p4, p5⟩ := six_blk k4
  simp only [Nat.zero_add] at p0 p1 p2 p3 p4 p5
  refine bodyPost_ret (v := .tuple #[Prt.zero.val, .int .i64 17]) (by simp [results, Tryz.results39, go_sem, p0, p1, p2, p3, p4, p5, Prt.val]) rfl ⟨rfl, B3.out.trans (b4 _ (by omega))⟩
end Go.Proofs.YtagjmggiaffihaaGreatDoor.Rs
namespace Go.Proofs.YtagjmggiaffihaaGreatDoor.Rs
open Go.RowKit Go.Shelf Go.Maps
open Go.Proofs.YtagjmggiaffihaaGreatDoor.At (St bAl cell_blk blk_seen blk_free drewN_below an wi wo pow32 bits_or32 pow_le add balloc)
set_option maxHeartbeats 1600000 in
set_option maxRecDepth 100000 in
theorem get_none {B : Nat} {W : World} {ub : Nat} {x : SV} {s : SD} (h : Sb B W ub x s) (k : Nat) (g comp : Int) (ha : s.r.aliveB (k : Int) g = true) (hx : (s.at k).length ≤ ix (s.at k) comp) :
    Calls Tryz.prog 39 #[.pointer (some ⟨ub, 0, none⟩), .agg #[.int .i64 (k : Int), .int .i64 g], .int .i64 comp] W fun e W' => e = .returned (.tuple #[Prt.zero.val, .int .i64 7]) ∧ Below W.heap.size W W' := by
  obtain ⟨b2, k1, k2⟩ := two_blk W #[.int .i64 (k : Int), .int .i64 g] Prt.zero.arr 43 47
  obtain ⟨W2, hW2⟩ : ∃ W2, W2 = (W.alloc (.cells #[.int .i64 (k : Int), .int .i64 g] 43)).alloc (.cells Prt.zero.arr 47) := ⟨_, rfl⟩
  rw [← hW2] at b2 k1 k2
  have HW2 := hid hW2
  unfold Prt.arr Prt.zero at HW2
  clear hW2
  have h2 := h.later b2
  have AL := hid (Ro.ralive_any (h2.later (Below.refl _ W2).drew).roll (k : Int) g)
  rw [ha] at AL
  have c2 := h2.c2
  have e0 : W2.cell? ⟨W.heap.size, 0, none⟩ = some (.int .i64 (k : Int)) := cell_blk k1 (j := 0) rfl
  have e1 : W2.cell? ⟨W.heap.size, 1, none⟩ = some (.int .i64 g) := cell_blk k1 (j := 1) rfl
  have B2 := hid b2
  obtain ⟨k', hk', hkn⟩ := alive_lt ha
  obtain rfl : k = k' := by omega
  have hk64 : k < 64 := by have := h.roll.small; omega
  have hki : (k : Int) < 64 := by omega
  have H2 := hid h2
  have K1 := hid k1
  have K2 := hid k2
  have HX := hid hx
  have hw16 := h.okw.1
  clear h ha h2 k1 k2 b2 hk' hkn hx
  go_enter Tryz.func39, Tryz.ntmps39
  go_wp2_with fail
  rw [← HW2.out]
  go_region_held3 (fun W' => W'.cell? ⟨ub, 2, none⟩ = some (.pointer (some ⟨x.rb, 0, none⟩)) ∧ W'.cell? ⟨W.heap.size, 0, none⟩ = some (.int .i64 (k : Int)) ∧ W'.cell? ⟨W.heap.size, 1, none⟩ = some (.int .i64 g)) (go_keep) (first | (go_at_call 41; refine AL.out.mono ?_; rintro e w3 ⟨rfl, hb3⟩; have d2 := At.seen (W := W2.drew) hb3 (Nat.le_refl _) c2; have f0 := At.seen (W := W2.drew) hb3 (Nat.le_refl _) e0; have f1 := At.seen (W := W2.drew) hb3 (Nat.le_refl _) e1))
  have B23 := hid ((Below.refl _ W2).drew.trans hb3)
  have k3 := blk_seen B23.out (Nat.le_refl _) K2.out
  have B3 := hid (B2.out.trans (B23.out.mono B2.out.size))
  have H3 := hid (H2.out.later B23.out)
  obtain ⟨v, hv, cv, hp, hok⟩ := H3.out.place hk64
  have hle := okL_few hok hw16
  have AT := hid (at_any w3.drew v (s.at k) comp (hp.row.later (Below.refl _ w3).drew) (by omega))
  have EI : Hid (ixI (s.at k) comp = -1) := by show _ = _; unfold ixI; rw [if_neg (by have := HX.out; omega)]
  have fr := fun j => blk_free k3 j
  rw [EI.out] at AT
  clear hp hok hv d2 f1 hb3 AL c2 e0 e1 B2 K1 K2 B23 H2 EI HX
  go_wp2_with fail
  go_region_held3 (fun W' => W'.cell? ⟨W.heap.size, 0, none⟩ = some (.int .i64 (k : Int)) ∧ W'.cell? ⟨ub, 3 + k, none⟩ = some v) (go_keep) (first | (go_at_call 68; refine AT.out.mono ?_; rintro e w4 ⟨rfl, rfl⟩))
  obtain ⟨p0, p1, p2, p3, p4, p5⟩ := six_blk k3
  simp only [Nat.zero_add] at p0 p1 p2 p3 p4 p5
  go_wp2_with fail
  obtain ⟨w4, hw4⟩ : ∃ w4, w4 = six w3 (W.heap.size + 1) Prt.zero := ⟨_, rfl⟩
  obtain ⟨k4, b4⟩ := six_set k3 (p := Prt.zero)
  rw [← hw4] at k4 b4
  unfold six Prt.zero at hw4
  dsimp only at hw4
  rw [← hw4]
  clear p0 p1 p2 p3 p4 p5
  obtain ⟨p0, p1, p2, p3, p4, p5⟩ := six_blk k4
  simp only [Nat.zero_add] at p0 p1 p2 p3 p4 p5
  refine bodyPost_ret (v := .tuple #[Prt.zero.val, .int .i64 7]) (by simp [results, Tryz.results39, go_sem, p0, p1, p2, p3, p4, p5, Prt.val]) rfl ⟨rfl, (B3.out.trans (b4 _ (by omega))).drew⟩
set_option maxHeartbeats 1600000 in
set_option maxRecDepth 100000 in
theorem get_some {B : Nat} {W : World} {ub : Nat} {x : SV} {s : SD} (h : Sb B W ub x s) (k : Nat) (g comp : Int) (ha : s.r.aliveB (k : Int) g = true) (q : Prt) (hx : (s.at k)[ix (s.at k) comp]? = some q) :
    Calls Tryz.prog 39 #[.pointer (some ⟨ub, 0, none⟩), .agg #[.int .i64 (k : Int), .int .i64 g], .int .i64 comp] W fun e W' => e = .returned (.tuple #[q.val, .int .i64 0]) ∧ Below W.heap.size W W' := by
  obtain ⟨b2, k1, k2⟩ := two_blk W #[.int .i64 (k : Int), .int .i64 g] Prt.zero.arr 43 47
  obtain ⟨W2, hW2⟩ : ∃ W2, W2 = (W.alloc (.cells #[.int .i64 (k : Int), .int .i64 g] 43)).alloc (.cells Prt.zero.arr 47) := ⟨_, rfl⟩
  rw [← hW2] at b2 k1 k2
  have HW2 := hid hW2
  unfold Prt.arr Prt.zero at HW2
  clear hW2
  have h2 := h.later b2
  have AL := hid (Ro.ralive_any (h2.later (Below.refl _ W2).drew).roll (k : Int) g)
  rw [ha] at AL
  have c2 := h2.c2
  have e0 : W2.cell? ⟨W.heap.size, 0, none⟩ = some (.int .i64 (k : Int)) := cell_blk k1 (j := 0) rfl
  have e1 : W2.cell? ⟨W.heap.size, 1, none⟩ = some (.int .i64 g) := cell_blk k1 (j := 1) rfl
  have B2 := hid b2
  obtain ⟨k', hk', hkn⟩ := alive_lt ha
  obtain rfl : k = k' := by omega
  have hk64 : k < 64 := by have := h.roll.small; omega
  have hki : (k : Int) < 64 := by omega
  have H2 := hid h2
  have K1 := hid k1
  have K2 := hid k2
  have HX := hid hx
  have hw16 := h.okw.1
  have VL : Hid (∀ v, x.pv[k]? = some v → ∀ b, v.ownBlock = some b → b < W.heap.size) := fun v hv b hb => by
    obtain ⟨v', hv', -, hp', -⟩ := h.place hk64
    obtain rfl : v' = v := by rw [hv] at hv'; exact (Option.some.inj hv').symm
    exact (hp'.lt b hb).2
  have hul := (h.lt ub (.inl rfl)).2
  clear h ha h2 k1 k2 b2 hk' hkn hx
  go_enter Tryz.func39, Tryz.ntmps39
  go_wp2_with fail
  rw [← HW2.out]
  go_region_held3 (fun W' => W'.cell? ⟨ub, 2, none⟩ = some (.pointer (some ⟨x.rb, 0, none⟩)) ∧ W'.cell? ⟨W.heap.size, 0, none⟩ = some (.int .i64 (k : Int)) ∧ W'.cell? ⟨W.heap.size, 1, none⟩ = some (.int .i64 g)) (go_keep) (first | (go_at_call 41; refine AL.out.mono ?_; rintro e w3 ⟨rfl, hb3⟩; have d2 := At.seen (W := W2.drew) hb3 (Nat.le_refl _) c2; have f0 := At.seen (W := W2.drew) hb3 (Nat.le_refl _) e0; have f1 := At.seen (W := W2.drew) hb3 (Nat.le_refl _) e1))
  have B23 := hid ((Below.refl _ W2).drew.trans hb3)
  have k3 := blk_seen B23.out (Nat.le_refl _) K2.out
  have B3 := hid (B2.out.trans (B23.out.mono B2.out.size))
  have H3 := hid (H2.out.later B23.out)
  obtain ⟨v, hv, cv, hp, hok⟩ := H3.out.place hk64
  have hle := okL_few hok hw16
  have AT := hid (at_any w3.drew v (s.at k) comp (hp.row.later (Below.refl _ w3).drew) (by omega))
  have hjl := (List.getElem?_eq_some_iff.1 HX.out).1
  have EI : Hid (ixI (s.at k) comp = (ix (s.at k) comp : Int)) := by show _ = _; unfold ixI; rw [if_pos hjl]
  obtain ⟨va, vc, rfl⟩ := hp.slice
  obtain ⟨vg, vo, rfl, six1⟩ := hp.row.at HX.out
  obtain ⟨d0, d1, d2', d3, d4, d5⟩ := six1
  have hvl := VL.out _ hv vg rfl
  have u1 : ¬ (ub = W.heap.size + 1) := by omega
  have u2 : ¬ (W.heap.size + 1 = ub) := by omega
  have u3 : ¬ (vg = W.heap.size + 1) := by omega
  have u4 : ¬ (W.heap.size + 1 = vg) := by omega
  have fr := fun j => blk_free k3 j
  rw [EI.out] at AT
  generalize ix (s.at k) comp = j at *
  generalize (s.at k).length = n at *
  have hji : (j : Int) < (n : Int) := by omega
  have hj0 : ¬ ((j : Int) < 0) := by omega
  have hn16 : (n : Int) ≤ 16 := by omega
  clear hp hok hv d2 f1 hb3 AL c2 e0 e1 B2 K1 K2 B23 H2 EI HX
  go_wp2_with fail
  go_region_held3 (fun W' => W'.cell? ⟨W.heap.size, 0, none⟩ = some (.int .i64 (k : Int)) ∧ W'.cell? ⟨ub, 3 + k, none⟩ = some (.slice (some ⟨vg, vo, none⟩) n vc)) (go_keep) (first | (go_at_call 68; refine AT.out.mono ?_; rintro e w4 ⟨rfl, rfl⟩))
  obtain ⟨p0, p1, p2, p3, p4, p5⟩ := six_blk k3
  simp only [Nat.zero_add] at p0 p1 p2 p3 p4 p5
  go_wp2_with fail
  go_region_held3 (fun W' => W'.cell? ⟨W.heap.size, 0, none⟩ = some (.int .i64 (k : Int)) ∧ W'.cell? ⟨ub, 3 + k, none⟩ = some (.slice (some ⟨vg, vo, none⟩) n vc) ∧ W'.cell? ⟨vg, vo + j * 6, none⟩ = some (.int .i64 q.c) ∧ W'.cell? ⟨vg, vo + j * 6 + 1, none⟩ = some (.int .i64 q.v0) ∧ W'.cell? ⟨vg, vo + j * 6 + 2, none⟩ = some (.int .i64 q.v1) ∧ W'.cell? ⟨vg, vo + j * 6 + 3, none⟩ = some (.int .i64 q.v2) ∧ W'.cell? ⟨vg, vo + j * 6 + 4, none⟩ = some (.int .i64 q.v3) ∧ W'.cell? ⟨vg, vo + j * 6 + 5, none⟩ = some (.int .i64 q.t)) (go_keep) (fail)
  go_wp2_with fail
  obtain ⟨w4, hw4⟩ : ∃ w4, w4 = six w3 (W.heap.size + 1) q := ⟨_, rfl⟩
  obtain ⟨k4, b4⟩ := six_set k3 (p := q)
  rw [← hw4] at k4 b4
  unfold six at hw4
  rw [← hw4]
  clear p0 p1 p2 p3 p4 p5
  obtain ⟨p0, p1, p2, p3, p4, p5⟩ := six_blk k4
  simp only [Nat.zero_add] at p0 p1 p2 p3 p4 p5
  refine bodyPost_ret (v := .tuple #[q.val, .int .i64 0]) (by simp [results, Tryz.results39, go_sem, p0, p1, p2, p3, p4, p5, Prt.val]) rfl ⟨rfl, (B3.out.trans (b4 _ (by omega))).drew.drew⟩
theorem get_any {B : Nat} {W : World} {ub : Nat} {x : SV} {s : SD} (h : Sb B W ub x s) (i g comp : Int) :
    Calls Tryz.prog 39 #[.pointer (some ⟨ub, 0, none⟩), .agg #[.int .i64 i, .int .i64 g], .int .i64 comp] W fun e W' => e = .returned (.tuple #[(s.get i g comp).1.val, .int .i64 (s.get i g comp).2]) ∧ Below W.heap.size W W' := by
  by_cases ha : s.r.aliveB i g = true
  · obtain ⟨k, rfl, -⟩ := alive_lt ha
    cases hx : (s.at k)[ix (s.at k) comp]? with
    | none =>
      have e : s.get (k : Int) g comp = (Prt.zero, 7) := by unfold SD.get; rw [if_pos ha, Int.toNat_natCast, hx]
      rw [e]
      exact get_none h k g comp ha (List.getElem?_eq_none_iff.1 hx)
    | some q =>
      have e : s.get (k : Int) g comp = (q, 0) := by unfold SD.get; rw [if_pos ha, Int.toNat_natCast, hx]
      rw [e]
      exact get_some h k g comp ha q hx
  · have e : s.get i g comp = (Prt.zero, 17) := by unfold SD.get; rw [if_neg ha]
    rw [e]
    exact get_dead h i g comp (by simpa using ha)
end Go.Proofs.YtagjmggiaffihaaGreatDoor.Rs
namespace Go.Proofs.YtagjmggiaffihaaGreatDoor.Rs
open Go.RowKit Go.Shelf Go.Maps
open Go.Proofs.YtagjmggiaffihaaGreatDoor.At (St bAl cell_blk blk_seen blk_free drewN_below an wi wo pow32 bits_or32 pow_le add balloc)
/-- A row with a part more. -/
def insr (p : Prt) : List Prt → List Prt
  | [] => [p]
  | x :: l => if p.c < x.c then p :: x :: l else x :: insr p l
theorem insP_rec (l : List Prt) (p : Prt) : insP l p = insr p l := by
  have A : ∀ (l acc : List Prt), l.foldl (fun s x => if !s.1 && decide (p.c < x.c) then (true, s.2 ++ [p] ++ [x]) else (s.1, s.2 ++ [x])) (true, acc) = ((true, acc ++ l) : Bool × List Prt) := by
    intro l
    induction l with
    | nil => intro acc; simp
    | cons x l ih =>
      intro acc
      rw [List.foldl_cons]
      show List.foldl _ (true, acc ++ [x]) l = _
      rw [ih]
      simp
  have C : ∀ (l acc : List Prt) (r : Bool × List Prt), l.foldl (fun s x => if !s.1 && decide (p.c < x.c) then (true, s.2 ++ [p] ++ [x]) else (s.1, s.2 ++ [x])) (false, acc) = r → (if r.1 then r.2 else r.2 ++ [p]) = acc ++ insr p l := by
    intro l
    induction l with
    | nil => intro acc r h; simp at h; subst h; simp [insr]
    | cons x l ih =>
      intro acc r h
      rw [List.foldl_cons] at h
      by_cases hc : p.c < x.c
      · simp only [hc, Bool.not_false, decide_true, Bool.and_self, if_true, A] at h
        subst h
        simp [insr, hc]
      · simp only [hc, decide_false, Bool.and_false, Bool.false_eq_true, if_false] at h
        rw [ih _ r h]
        simp [insr, hc]
  have := C l [] (wst p l) rfl
  simpa [insP] using this
theorem mem_insr {p y : Prt} : ∀ {l : List Prt}, y ∈ insr p l ↔ y = p ∨ y ∈ l := by
  intro l
  induction l with
  | nil => simp [insr]
  | cons x l ih =>
    unfold insr
    split
    · simp
    · rw [List.mem_cons, ih, List.mem_cons]
      constructor
      · rintro (h | h | h)
        · exact .inr (.inl h)
        · exact .inl h
        · exact .inr (.inr h)
      · rintro (h | h | h)
        · exact .inr (.inl h)
        · exact .inl h
        · exact .inr (.inr h)
theorem insr_sorted {p : Prt} : ∀ {l : List Prt}, l.Pairwise (fun x y => x.c < y.c) → (∀ x ∈ l, x.c ≠ p.c) → (insr p l).Pairwise (fun x y => x.c < y.c) := by
  intro l
  induction l with
  | nil => intro _ _; simp [insr]
  | cons x l ih =>
    intro h hn
    have h' := List.pairwise_cons.1 h
    unfold insr
    split
    · rename_i hc
      refine List.pairwise_cons.2 ⟨fun y hy => ?_, h⟩
      rcases List.mem_cons.1 hy with rfl | hy
      · exact hc
      · have := h'.1 y hy; omega
    · rename_i hc
      refine List.pairwise_cons.2 ⟨fun y hy => ?_, ih h'.2 fun z hz => hn z (List.mem_cons_of_mem _ hz)⟩
      rcases mem_insr.1 hy with rfl | hy
      · have := hn x List.mem_cons_self; omega
      · exact h'.1 y hy
theorem ix_absent {l : List Prt} {comp : Int} (h : l.length ≤ ix l comp) : ∀ x ∈ l, x.c ≠ comp := by
  intro x hx e
  have : ix l comp < l.length := List.findIdx_lt_length_of_exists ⟨x, hx, by simp [e]⟩
  omega
theorem fit_range {ws : List Nat} {p : Prt} (h : fitP ws p = true) : 0 ≤ p.c ∧ p.c < (ws.length : Int) := by
  by_cases q : p.c < 0 ∨ (ws.length : Int) ≤ p.c
  · rw [fit_out q] at h; simp at h
  · omega
theorem okL.ins {ws : List Nat} {l : List Prt} {p : Prt} (h : okL ws l) (hf : fitP ws p = true) (hx : ∀ x ∈ l, x.c ≠ p.c) : okL ws (insP l p) := by
  rw [insP_rec]
  refine ⟨insr_sorted h.1 hx, fun y hy => ?_⟩
  rcases mem_insr.1 hy with rfl | hy
  · exact fit_range hf
  · exact h.2 y hy
/-- A row without a component. -/
def remP (l : List Prt) (comp : Int) : List Prt := l.filter fun x => !(x.c == comp)
theorem okL.rem {ws : List Nat} {l : List Prt} (h : okL ws l) (comp : Int) : okL ws (remP l comp) := ⟨h.1.filter _, fun y hy => h.2 y (List.mem_filter.1 hy).1⟩
theorem remP_no (l : List Prt) (comp : Int) : ∀ x ∈ remP l comp, x.c ≠ comp := fun x hx e => by
  have := (List.mem_filter.1 hx).2
  simp [e] at this
theorem insP_len (l : List Prt) (p : Prt) : (insP l p).length = l.length + 1 := by
  rw [insP_rec]
  induction l with
  | nil => rfl
  | cons x l ih => unfold insr; split <;> simp [ih]
end Go.Proofs.YtagjmggiaffihaaGreatDoor.Rs
namespace Go.Proofs.YtagjmggiaffihaaGreatDoor.Rs
open Go.RowKit Go.Shelf Go.Maps
open Go.Proofs.YtagjmggiaffihaaGreatDoor.At (St bAl cell_blk blk_seen blk_free drewN_below an wi wo pow32 bits_or32 pow_le add balloc)
/-- What Insert comes to. -/
def SD.rowed (s : SD) (k : Nat) (l : List Prt) : SD := { s with p := s.p.set k l }
def SD.ins (s : SD) (i g : Int) (p : Prt) : Int × SD :=
  if s.r.aliveB i g then if fitP s.ws p then if ix (s.at i.toNat) p.c < (s.at i.toNat).length then (9, s) else (0, (s.rowed i.toNat (insP (s.at i.toNat) p)).noted (mskP (insP (s.at i.toNat) p))) else (1, s) else (17, s)
/-- What the call of Alive leaves, and Fits. -/
structure Two (B : Nat) (W : World) (ub : Nat) (x : SV) (s : SD) (i g : Int) (p : Prt) (w : World) : Prop where
  bel : Below W.heap.size W w
  sb : Sb B w ub x s
  k1 : w.heap[W.heap.size]? = some (.cells #[.int .i64 i, .int .i64 g] 43 (0, 0))
  k2 : w.heap[W.heap.size + 1]? = some (.cells p.arr 47 (0, 0))
section
variable {B : Nat} {W w w' : World} {ub : Nat} {x : SV} {s : SD} {i g : Int} {p : Prt}
theorem Two.later (h : Two B W ub x s i g p w) (hb : Below w.heap.size w w') : Two B W ub x s i g p w' :=
  ⟨h.bel.trans (hb.mono h.bel.size), h.sb.later hb, blk_seen hb (Nat.le_refl _) h.k1, blk_seen hb (Nat.le_refl _) h.k2⟩
theorem Two.drew (h : Two B W ub x s i g p w) : Two B W ub x s i g p w.drew := h.later (Below.refl _ w).drew
/-- The cells that are read. -/
def Cells (W : World) (ub : Nat) (x : SV) (i g : Int) (p : Prt) (w : World) : Prop :=
  w.cell? ⟨ub, 0, none⟩ = some x.va ∧ w.cell? ⟨ub, 1, none⟩ = some x.vb ∧ w.cell? ⟨ub, 2, none⟩ = some (.pointer (some ⟨x.rb, 0, none⟩)) ∧ w.cell? ⟨W.heap.size, 0, none⟩ = some (.int .i64 i) ∧ w.cell? ⟨W.heap.size, 1, none⟩ = some (.int .i64 g) ∧
  w.cell? ⟨W.heap.size + 1, 0, none⟩ = some (.int .i64 p.c) ∧ w.cell? ⟨W.heap.size + 1, 1, none⟩ = some (.int .i64 p.v0) ∧ w.cell? ⟨W.heap.size + 1, 2, none⟩ = some (.int .i64 p.v1) ∧ w.cell? ⟨W.heap.size + 1, 3, none⟩ = some (.int .i64 p.v2) ∧ w.cell? ⟨W.heap.size + 1, 4, none⟩ = some (.int .i64 p.v3) ∧ w.cell? ⟨W.heap.size + 1, 5, none⟩ = some (.int .i64 p.t)
theorem Two.cells (h : Two B W ub x s i g p w) : w.cell? ⟨ub, 0, none⟩ = some x.va ∧ w.cell? ⟨ub, 1, none⟩ = some x.vb ∧ w.cell? ⟨ub, 2, none⟩ = some (.pointer (some ⟨x.rb, 0, none⟩)) ∧ w.cell? ⟨W.heap.size, 0, none⟩ = some (.int .i64 i) ∧ w.cell? ⟨W.heap.size, 1, none⟩ = some (.int .i64 g) ∧
  w.cell? ⟨W.heap.size + 1, 0, none⟩ = some (.int .i64 p.c) ∧ w.cell? ⟨W.heap.size + 1, 1, none⟩ = some (.int .i64 p.v0) ∧ w.cell? ⟨W.heap.size + 1, 2, none⟩ = some (.int .i64 p.v1) ∧ w.cell? ⟨W.heap.size + 1, 3, none⟩ = some (.int .i64 p.v2) ∧ w.cell? ⟨W.heap.size + 1, 4, none⟩ = some (.int .i64 p.v3) ∧ w.cell? ⟨W.heap.size + 1, 5, none⟩ = some (.int .i64 p.t) :=
  ⟨h.sb.c0, h.sb.c1, h.sb.c2, cell_blk h.k1 (j := 0) rfl, cell_blk h.k1 (j := 1) rfl, cell_blk h.k2 (j := 0) rfl, cell_blk h.k2 (j := 1) rfl, cell_blk h.k2 (j := 2) rfl, cell_blk h.k2 (j := 3) rfl, cell_blk h.k2 (j := 4) rfl, cell_blk h.k2 (j := 5) rfl⟩
end
set_option maxHeartbeats 3200000 in
set_option maxRecDepth 100000 in
theorem insert_no {B : Nat} {W : World} {ub : Nat} {x : SV} {s : SD} (h : Sb B W ub x s) (i g : Int) (p : Prt) (hno : s.r.aliveB i g = true → fitP s.ws p = true → ix (s.at i.toNat) p.c < (s.at i.toNat).length) :
    Calls Tryz.prog 22 #[.pointer (some ⟨ub, 0, none⟩), .agg #[.int .i64 i, .int .i64 g], .agg #[.int .i64 p.c, .int .i64 p.v0, .int .i64 p.v1, .int .i64 p.v2, .int .i64 p.v3, .int .i64 p.t]] W fun e W' => e = .returned (.int .i64 (s.ins i g p).1) ∧ ∃ x', Gs B W ub x W' x' (s.ins i g p).2 := by
  obtain ⟨b2, k1, k2⟩ := two_blk W #[.int .i64 i, .int .i64 g] p.arr 43 47
  obtain ⟨W2, hW2⟩ : ∃ W2, W2 = (W.alloc (.cells #[.int .i64 i, .int .i64 g] 43)).alloc (.cells p.arr 47) := ⟨_, rfl⟩
  rw [← hW2] at b2 k1 k2
  have HW2 := hid hW2
  unfold Prt.arr at HW2
  clear hW2
  have T2 : Two B W ub x s i g p W2 := ⟨b2, h.later b2, k1, k2⟩
  have AL := hid (Ro.ralive_any T2.drew.sb.roll i g)
  obtain ⟨ba, hba⟩ : ∃ ba, ba = s.r.aliveB i g := ⟨_, rfl⟩
  rw [← hba] at AL
  have HBA := hid hba
  have H := hid h
  have HNO := hid hno
  clear hno
  have hw16 := h.okw.1
  obtain ⟨a0, a1, a2, a3, a4, a5, a6, a7, a8, a9, a10⟩ := T2.cells
  have T2 := hid T2
  clear h k1 k2 b2 hba
  go_enter Tryz.func22, Tryz.ntmps22
  go_wp2_with fail
  rw [← HW2.out]
  go_region_held3 (fun W' => W'.cell? ⟨ub, 2, none⟩ = some (.pointer (some ⟨x.rb, 0, none⟩)) ∧ W'.cell? ⟨W.heap.size, 0, none⟩ = some (.int .i64 i) ∧ W'.cell? ⟨W.heap.size, 1, none⟩ = some (.int .i64 g)) (go_keep) (first | (go_at_call 41; refine AL.out.mono ?_; rintro e w3 ⟨rfl, hb3⟩; have T3 := hid (T2.out.drew.later hb3); obtain ⟨c0, c1, c2, c3, c4, c5, c6, c7, c8, c9, c10⟩ := T3.out.cells))
  clear hb3 AL a0 a1 a2 a3 a4 a5 a6 a7 a8 a9 a10 T2
  cases ba with
  | false =>
    have E : Hid (s.ins i g p = (17, s)) := by show _ = _; unfold SD.ins; rw [← HBA.out]; rfl
    go_wp2_with fail
    go_ret
    rw [E.out]
    exact ⟨rfl, x, Gs.stay H.out T3.out.bel⟩
  | true =>
  obtain ⟨k, rfl, hkn⟩ := alive_lt HBA.out.symm
  have hk64 : k < 64 := by have := H.out.roll.small; omega
  have hki : (k : Int) < 64 := by omega
  have FT := hid (fits_any w3.drew x.va x.vb H.out.vb s.ws p T3.out.drew.sb.wd.row H.out.okw)
  obtain ⟨bf, hbf⟩ : ∃ bf, bf = fitP s.ws p := ⟨_, rfl⟩
  rw [← hbf] at FT
  have HBF := hid hbf
  clear hbf
  go_wp2_with fail
  go_region_held3 (fun W' => W'.cell? ⟨ub, 0, none⟩ = some x.va ∧ W'.cell? ⟨ub, 1, none⟩ = some x.vb ∧ W'.cell? ⟨W.heap.size + 1, 0, none⟩ = some (.int .i64 p.c) ∧ W'.cell? ⟨W.heap.size + 1, 1, none⟩ = some (.int .i64 p.v0) ∧ W'.cell? ⟨W.heap.size + 1, 2, none⟩ = some (.int .i64 p.v1) ∧ W'.cell? ⟨W.heap.size + 1, 3, none⟩ = some (.int .i64 p.v2) ∧ W'.cell? ⟨W.heap.size + 1, 4, none⟩ = some (.int .i64 p.v3) ∧ W'.cell? ⟨W.heap.size + 1, 5, none⟩ = some (.int .i64 p.t)) (go_keep) (first | (go_at_call 67; refine FT.out.mono ?_; rintro e w4 ⟨rfl, hb4⟩; have T4 := hid (T3.out.drew.later hb4); clear c0 c1 c2 c3 c4 c5 c6 c7 c8 c9 c10; obtain ⟨c0, c1, c2, c3, c4, c5, c6, c7, c8, c9, c10⟩ := T4.out.cells))
  clear hb4 FT T3
  cases bf with
  | false =>
    have E : Hid (s.ins (k : Int) g p = (1, s)) := by show _ = _; unfold SD.ins; rw [← HBA.out, ← HBF.out]; rfl
    go_wp2_with fail
    go_ret
    rw [E.out]
    exact ⟨rfl, x, Gs.stay H.out T4.out.bel⟩
  | true =>
  obtain ⟨v, hv, cv, hp, hok⟩ := T4.out.sb.place hk64
  have hle := okL_few hok hw16
  have AT := hid (at_any w4.drew v (s.at k) p.c (hp.row.later (Below.refl _ w4).drew) (by omega))
  have HOK := hid hok
  have HP := hid hp
  clear hok hp hv hkn
  go_wp2_with fail
  go_region_held3 (fun W' => W'.cell? ⟨W.heap.size, 0, none⟩ = some (.int .i64 (k : Int)) ∧ W'.cell? ⟨ub, 3 + k, none⟩ = some v ∧ W'.cell? ⟨W.heap.size + 1, 0, none⟩ = some (.int .i64 p.c)) (go_keep) (first | (go_at_call 68; refine AT.out.mono ?_; rintro e w5 ⟨rfl, rfl⟩))
  clear AT
  by_cases hix : ix (s.at k) p.c < (s.at k).length
  · have E : Hid (s.ins (k : Int) g p = (9, s)) := by show _ = _; unfold SD.ins; rw [← HBA.out, ← HBF.out]; simp [hix]
    have EI : Hid (ixI (s.at k) p.c = (ix (s.at k) p.c : Int)) := by show _ = _; unfold ixI; rw [if_pos hix]
    rw [EI.out]
    have q0 : (0 : Int) ≤ (ix (s.at k) p.c : Int) := by omega
    generalize ix (s.at k) p.c = j at *
    go_wp2_with fail
    go_ret
    rw [E.out]
    exact ⟨rfl, x, Gs.stay H.out T4.out.drew.bel⟩
  · exact absurd (HNO.out HBA.out.symm HBF.out.symm) (by rw [Int.toNat_natCast]; exact hix)
end Go.Proofs.YtagjmggiaffihaaGreatDoor.Rs
namespace Go.Proofs.YtagjmggiaffihaaGreatDoor.So
open Go.RowKit Go.Shelf Go.Maps
open Go.Proofs.YtagjmggiaffihaaGreatDoor.Co (I64 Pt)
open Go.Proofs.YtagjmggiaffihaaGreatDoor.At (lst lst_mem an wi wo add)
open Go.Proofs.YtagjmggiaffihaaGreatDoor.Rs (Prt SD okL okW okC fitP mskP mskP_snoc insP insr insP_rec mem_insr remP ix)
theorem ext_key {α : Type} (key : α → Nat) : ∀ {l m : List α}, l.Pairwise (fun x y => key x < key y) → m.Pairwise (fun x y => key x < key y) → (∀ x, x ∈ l ↔ x ∈ m) → l = m := by
  intro l
  induction l with
  | nil =>
    intro m _ _ h
    cases m with
    | nil => rfl
    | cons b t => exact absurd ((h b).2 (by simp)) (by simp)
  | cons a l ih =>
    intro m hl hm h
    cases m with
    | nil => exact absurd ((h a).1 (by simp)) (by simp)
    | cons b t =>
      rw [List.pairwise_cons] at hl hm
      have e : a = b := by
        rcases List.mem_cons.1 ((h a).1 (by simp)) with q | q
        · exact q
        · rcases List.mem_cons.1 ((h b).2 (by simp)) with q' | q'
          · exact q'.symm
          · have := hm.1 a q
            have := hl.1 b q'
            omega
      subst e
      rw [ih hl.2 hm.2 fun x => ?_]
      constructor
      · intro hx
        rcases List.mem_cons.1 ((h x).1 (by simp [hx])) with q | q
        · subst q; have := hl.1 x hx; omega
        · exact q
      · intro hx
        rcases List.mem_cons.1 ((h x).2 (by simp [hx])) with q | q
        · subst q; have := hm.1 x hx; omega
        · exact q
theorem lst_sorted (m : Nat) : ∀ k, (lst k m).Pairwise (· < ·)
  | 0 => by simp [lst]
  | k + 1 => by
    have ih := lst_sorted m k
    unfold lst
    split
    · rw [List.pairwise_append]
      refine ⟨ih, by simp, fun a ha b hb => ?_⟩
      have := ((lst_mem m a k).1 ha).1
      simp at hb
      omega
    · exact ih
/-- A part without its component. -/
def pt (p : Prt) : Pt := ⟨p.v0, p.v1, p.v2, p.v3, p.t⟩
def mk (c : Nat) (q : Pt) : Prt := ⟨(c : Int), q.a, q.b, q.c, q.d, q.t⟩
theorem mk_val (c : Nat) (q : Pt) : (mk c q).val = q.val (c : Int) := rfl
theorem pt_val (p : Prt) : p.val = (pt p).val p.c := rfl
theorem mk_pt {p : Prt} {c : Nat} (h : p.c = (c : Int)) : mk c (pt p) = p := by
  cases p; simp at h; subst h; rfl
theorem pt_mk (c : Nat) (q : Pt) : pt (mk c q) = q := rfl
/-- The part of a component. -/
def ptAt (l : List Prt) (c : Nat) : Pt := match l.find? (fun x => x.c == (c : Int)) with
  | some p => pt p
  | none => Pt.zero
/-- No component twice. -/
def Apart (l : List Prt) : Prop := l.Pairwise (fun x y => x.c ≠ y.c)
theorem okL_apart {ws : List Nat} {l : List Prt} (h : okL ws l) : Apart l := h.1.imp fun q e => by omega
theorem find_apart {l : List Prt} (h : Apart l) {p : Prt} (hp : p ∈ l) : l.find? (fun x => x.c == p.c) = some p := by
  induction l with
  | nil => simp at hp
  | cons a l ih =>
    rw [Apart, List.pairwise_cons] at h
    rcases List.mem_cons.1 hp with rfl | hp'
    · simp
    · have := h.1 p hp'
      rw [List.find?_cons_of_neg (by simpa using this)]
      exact ih h.2 hp'
theorem ptAt_mem {l : List Prt} (h : Apart l) {p : Prt} (hp : p ∈ l) {c : Nat} (hc : p.c = (c : Int)) : ptAt l c = pt p := by
  unfold ptAt
  rw [← hc, find_apart h hp]
theorem apart_perm {l l' : List Prt} (h : Apart l) (hp : l.Perm l') : Apart l' := (hp.pairwise_iff (fun q => Ne.symm q)).1 h
theorem find_none {l : List Prt} {c : Int} (h : ∀ x ∈ l, x.c ≠ c) : l.find? (fun x => x.c == c) = none := by
  rw [List.find?_eq_none]
  intro x hx
  simpa using h x hx
theorem ptAt_perm {l l' : List Prt} (h : Apart l) (hp : l.Perm l') (c : Nat) : ptAt l c = ptAt l' c := by
  by_cases e : ∃ x ∈ l, x.c = (c : Int)
  · obtain ⟨x, hx, hc⟩ := e
    rw [ptAt_mem h hx hc, ptAt_mem (apart_perm h hp) (hp.mem_iff.1 hx) hc]
  · unfold ptAt
    rw [find_none fun x hx q => e ⟨x, hx, q⟩, find_none fun x hx q => e ⟨x, hp.mem_iff.2 hx, q⟩]
/-- Components that there can be. -/
def Pos (l : List Prt) : Prop := ∀ x ∈ l, 0 ≤ x.c
theorem fold_bit (c : Nat) : ∀ (l : List Prt) (m : Nat), (l.foldl (fun m x => m ||| 2 ^ x.c.toNat) m).testBit c = (m.testBit c || l.any fun x => x.c.toNat == c) := by
  intro l
  induction l with
  | nil => intro m; simp
  | cons a l ih =>
    intro m
    rw [List.foldl_cons, ih, Nat.testBit_or, Nat.testBit_two_pow, List.any_cons, Bool.or_assoc]
    congr 2
theorem msk_bit (l : List Prt) (c : Nat) : (mskP l).testBit c = l.any fun x => x.c.toNat == c := by
  unfold mskP
  rw [fold_bit]
  simp
theorem msk_mem {l : List Prt} (h : Pos l) (c : Nat) : (mskP l).testBit c = true ↔ ∃ x ∈ l, x.c = (c : Int) := by
  rw [msk_bit, List.any_eq_true]
  constructor
  · rintro ⟨x, hx, e⟩
    have := h x hx
    exact ⟨x, hx, by simp at e; omega⟩
  · rintro ⟨x, hx, e⟩
    exact ⟨x, hx, by simp; omega⟩
theorem eq_bits {a b : Nat} (h : ∀ i, a.testBit i = b.testBit i) : a = b := Nat.eq_of_testBit_eq h
theorem msk_perm {l l' : List Prt} (hp : l.Perm l') : mskP l = mskP l' := by
  apply eq_bits
  intro i
  rw [msk_bit, msk_bit, Bool.eq_iff_iff, List.any_eq_true, List.any_eq_true]
  constructor
  · rintro ⟨x, hx, e⟩; exact ⟨x, hp.mem_iff.1 hx, e⟩
  · rintro ⟨x, hx, e⟩; exact ⟨x, hp.mem_iff.2 hx, e⟩
theorem okL_pos {ws : List Nat} {l : List Prt} (h : okL ws l) : Pos l := fun x hx => (h.2 x hx).1
theorem msk_lt {ws : List Nat} {l : List Prt} (h : ∀ x ∈ l, 0 ≤ x.c ∧ x.c < (ws.length : Int)) : mskP l < 2 ^ ws.length := by
  apply At.lt_of_bits
  intro i hi
  rw [Bool.eq_false_iff]
  intro q
  obtain ⟨x, hx, e⟩ := (msk_mem (fun x hx => (h x hx).1) i).1 q
  have := (h x hx).2
  omega
/-- The parts of a row, found by their components. -/
theorem parts_back {ws : List Nat} {l : List Prt} (h : okL ws l) (hw : ws.length ≤ 16) : (lst 32 (mskP l)).map (fun c => mk c (ptAt l c)) = l := by
  refine ext_key (fun x => x.c.toNat) ?_ ?_ ?_
  · rw [List.pairwise_map]
    exact (lst_sorted _ 32).imp fun q => by simpa [mk] using q
  · refine List.Pairwise.imp_of_mem ?_ h.1
    intro a b ha hb q
    have := (h.2 a ha).1
    omega
  · intro x
    rw [List.mem_map]
    constructor
    · rintro ⟨c, hc, rfl⟩
      obtain ⟨y, hy, e⟩ := (msk_mem (okL_pos h) c).1 ((lst_mem _ _ _).1 hc).2
      rw [ptAt_mem (okL_apart h) hy e, mk_pt e]
      exact hy
    · intro hx
      have h1 := h.2 x hx
      refine ⟨x.c.toNat, (lst_mem _ _ _).2 ⟨by omega, (msk_mem (okL_pos h) _).2 ⟨x, hx, by omega⟩⟩, ?_⟩
      rw [ptAt_mem (okL_apart h) hx (by omega), mk_pt (by omega)]
end Go.Proofs.YtagjmggiaffihaaGreatDoor.So
namespace Go.Proofs.YtagjmggiaffihaaGreatDoor.So
open Go.RowKit Go.Shelf Go.Maps
open Go.Proofs.YtagjmggiaffihaaGreatDoor.Co (I64 Pt)
open Go.Proofs.YtagjmggiaffihaaGreatDoor.At (lst lst_mem an wi wo add)
open Go.Proofs.YtagjmggiaffihaaGreatDoor.Ro (RS)
open Go.Proofs.YtagjmggiaffihaaGreatDoor.Rs (Prt SD okL okW okC fitP mskP mskP_snoc insP insr insP_rec mem_insr remP ix)
/-- Who is there. -/
def al (s : SD) (i g : Nat) : Prop := s.r.aliveB (i : Int) (g : Int) = true
theorem al_iff (s : SD) (i g : Nat) : al s i g ↔ i ∉ s.r.free ∧ s.r.gens[i]? = some g := by
  unfold al
  rw [RS.aliveB_iff]
  simp
theorem al_gen {s : SD} {i g g' : Nat} (h : al s i g) (h' : al s i g') : g = g' := by
  rw [al_iff] at h h'
  have := h.2.symm.trans h'.2
  simpa using this
theorem al_lt {s : SD} {i g : Nat} (h : al s i g) : i < s.r.gens.length := by
  rw [al_iff] at h
  exact (List.getElem?_eq_some_iff.1 h.2).1
/-- Parts that an entity can have. -/
def okE (ws : List Nat) (l : List Prt) : Prop := okL ws l ∧ ∀ p ∈ l, fitP ws p = true ∧ I64 p.t
/-- Each stands where its seat says (ex: it alone stands nowhere). -/
structure Lk (ex : Option Nat) (tab : Nat → Option (List (Nat × Nat))) (seat : List (Nat × Nat)) (s : SD) : Prop where
  len : seat.length = s.r.gens.length
  here : ∀ i g, al s i g → ex ≠ some i → ∃ n j own, seat[i]? = some (n, j) ∧ tab n = some own ∧ own[j]? = some (i, g) ∧ s.sets[n]? = some (mskP (s.at i))
  back : ∀ n own, tab n = some own → own ≠ [] ∧ ∀ j i g, own[j]? = some (i, g) → al s i g ∧ ex ≠ some i ∧ seat[i]? = some (n, j) ∧ s.sets[n]? = some (mskP (s.at i))
  ok : ∀ i g, al s i g → ex ≠ some i → okE s.ws (s.at i)
def tput (tab : Nat → Option (List (Nat × Nat))) (n : Nat) (x : Option (List (Nat × Nat))) : Nat → Option (List (Nat × Nat)) := fun m => if m = n then x else tab m
theorem tput_same (tab : Nat → Option (List (Nat × Nat))) (n : Nat) (x : Option (List (Nat × Nat))) : tput tab n x n = x := by simp [tput]
theorem tput_ne (tab : Nat → Option (List (Nat × Nat))) {n m : Nat} (h : m ≠ n) (x : Option (List (Nat × Nat))) : tput tab n x m = tab m := by simp [tput, h]
section
variable {ex : Option Nat} {tab : Nat → Option (List (Nat × Nat))} {seat : List (Nat × Nat)} {s : SD}
theorem Lk.one (h : Lk ex tab seat s) {n n' : Nat} {own own' : List (Nat × Nat)} (h1 : tab n = some own) (h2 : tab n' = some own') {j j' i g g' : Nat} (e1 : own[j]? = some (i, g)) (e2 : own'[j']? = some (i, g')) : n = n' ∧ j = j' := by
  have a := ((h.back n own h1).2 j i g e1).2.2.1
  have b := ((h.back n' own' h2).2 j' i g' e2).2.2.1
  rw [a] at b
  simpa using b
/-- The row of owners behind a taking. -/
def taken (own : List (Nat × Nat)) (j : Nat) (x : Nat × Nat) : List (Nat × Nat) := (own.set j x).dropLast
theorem taken_len (own : List (Nat × Nat)) (j : Nat) (x : Nat × Nat) : (taken own j x).length = own.length - 1 := by simp [taken]
theorem taken_at {own : List (Nat × Nat)} {j : Nat} {x : Nat × Nat} {k : Nat} {y : Nat × Nat} (h : (taken own j x)[k]? = some y) : k < own.length - 1 ∧ ((k = j ∧ y = x ∧ j < own.length - 1) ∨ (k ≠ j ∧ own[k]? = some y)) := by
  unfold taken at h
  have hk := (List.getElem?_eq_some_iff.1 h).1
  simp at hk
  rw [List.getElem?_dropLast, if_pos (by simpa using hk), List.getElem?_set] at h
  refine ⟨hk, ?_⟩
  by_cases e : j = k
  · subst e
    rw [if_pos rfl, if_pos (by omega)] at h
    exact .inl ⟨rfl, (by simpa using h.symm), hk⟩
  · rw [if_neg e] at h
    exact .inr ⟨fun q => e q.symm, h⟩
theorem at_taken {own : List (Nat × Nat)} {j : Nat} {x : Nat × Nat} {k : Nat} (hk : k < own.length - 1) : (taken own j x)[k]? = if j = k then some x else own[k]? := by
  unfold taken
  rw [List.getElem?_dropLast, if_pos (by simpa using hk), List.getElem?_set]
  by_cases e : j = k
  · rw [if_pos e, if_pos e, if_pos (by omega)]
  · rw [if_neg e, if_neg e]
/-- The seats behind a taking. -/
def seated (own : List (Nat × Nat)) (n j : Nat) (x : Nat × Nat) (seat : List (Nat × Nat)) : List (Nat × Nat) := if j < own.length - 1 then seat.set x.1 (n, j) else seat
def left (own : List (Nat × Nat)) (j : Nat) (x : Nat × Nat) : Option (List (Nat × Nat)) := if own.length - 1 = 0 then none else some (taken own j x)
theorem Lk.leave (h : Lk none tab seat s) {i g n j : Nat} {own : List (Nat × Nat)} {x : Nat × Nat} (hs : seat[i]? = some (n, j)) (ht : tab n = some own) (ho : own[j]? = some (i, g)) (hx : own[own.length - 1]? = some x) :
    Lk (some i) (tput tab n (left own j x)) (seated own n j x seat) s := by
  have hj := (List.getElem?_eq_some_iff.1 ho).1
  obtain ⟨ax, -, sx, -⟩ := (h.back n own ht).2 _ x.1 x.2 hx
  obtain ⟨ai, -, si, -⟩ := (h.back n own ht).2 _ i g ho
  have hxi : x.1 = i ↔ own.length - 1 = j := by
    constructor
    · intro e
      exact (h.one ht ht (i := i) (g := x.2) (by rw [hx, ← e]) ho).2
    · intro e
      rw [e, ho] at hx
      simp at hx
      rw [← hx]
  have sat : ∀ k, (seated own n j x seat)[k]? = if j < own.length - 1 ∧ k = x.1 then some (n, j) else seat[k]? := by
    intro k
    unfold seated
    by_cases c : j < own.length - 1
    · rw [if_pos c, List.getElem?_set]
      by_cases e : x.1 = k
      · rw [if_pos e, if_pos (List.getElem?_eq_some_iff.1 sx).1, if_pos ⟨c, e.symm⟩]
      · rw [if_neg e, if_neg fun q => e q.2.symm]
    · rw [if_neg c, if_neg fun q => c q.1]
  refine ⟨?_, ?_, ?_, fun k q hk _ => h.ok k q hk (by simp)⟩
  · rw [← h.len]; unfold seated; split <;> simp
  · intro k q hk hne
    obtain ⟨n', j', own', e1, e2, e3, e4⟩ := h.here k q hk (by simp)
    have hki : k ≠ i := fun e => hne (by rw [e])
    by_cases en : n' = n
    · subst en
      obtain rfl : own = own' := by rw [ht] at e2; simpa using e2
      have hj' := (List.getElem?_eq_some_iff.1 e3).1
      have hjj : j' ≠ j := fun e => hki (by rw [e, ho] at e3; simp at e3; exact e3.1.symm)
      have h1 : own.length - 1 ≠ 0 := by omega
      by_cases el : j' = own.length - 1
      · obtain rfl : x = (k, q) := by rw [← el, e3] at hx; simpa using hx.symm
        refine ⟨n', j, taken own j (k, q), ?_, by rw [tput_same, left, if_neg h1], ?_, e4⟩
        · rw [sat, if_pos ⟨by omega, rfl⟩]
        · rw [at_taken (by omega), if_pos rfl]
      · have hkx : k ≠ x.1 := fun e => el (h.one ht ht e3 (i := k) (g' := x.2) (by rw [hx, e])).2
        refine ⟨n', j', taken own j x, ?_, by rw [tput_same, left, if_neg h1], ?_, e4⟩
        · rw [sat, if_neg fun q => hkx q.2]; exact e1
        · rw [at_taken (by omega), if_neg fun e => hjj e.symm]; exact e3
    · refine ⟨n', j', own', ?_, by rw [tput_ne _ en]; exact e2, e3, e4⟩
      have hkx : k ≠ x.1 := fun e => en (h.one e2 ht e3 (i := k) (g' := x.2) (by rw [hx, e])).1
      rw [sat, if_neg fun q => hkx q.2]; exact e1
  · intro n' own' e2
    by_cases en : n' = n
    · subst en
      rw [tput_same, left] at e2
      split at e2
      · cases e2
      · rename_i h1
        simp at e2
        subst e2
        refine ⟨fun e => h1 (by rw [← taken_len own j x, e]; rfl), ?_⟩
        intro k i' g' hk
        obtain ⟨hk1, hk2⟩ := taken_at hk
        rcases hk2 with ⟨rfl, rfl, hjl⟩ | ⟨hkj, hk2⟩
        · have b := (h.back n' own ht).2 _ i' g' hx
          refine ⟨b.1, fun e => ?_, ?_, b.2.2.2⟩
          · have := hxi.1 (by simpa using e.symm); omega
          · rw [sat, if_pos ⟨hjl, rfl⟩]
        · have b := (h.back n' own ht).2 _ i' g' hk2
          refine ⟨b.1, fun e => ?_, ?_, b.2.2.2⟩
          · simp at e; subst e; exact hkj (h.one ht ht hk2 ho).2
          · rw [sat, if_neg fun q => ?_]; exact b.2.2.1
            have := (h.one ht ht hk2 (i := i') (g' := x.2) (by rw [hx, q.2])).2
            omega
    · rw [tput_ne _ en] at e2
      refine ⟨(h.back n' own' e2).1, ?_⟩
      intro k i' g' hk
      have b := (h.back n' own' e2).2 _ i' g' hk
      refine ⟨b.1, fun e => ?_, ?_, b.2.2.2⟩
      · simp at e; subst e; exact en (h.one e2 ht hk ho).1
      · rw [sat, if_neg fun q => ?_]; exact b.2.2.1
        exact en (h.one e2 ht hk (i := i') (g' := x.2) (by rw [hx, q.2])).1
/-- What is there behind a new row of parts, and its set noted. -/
def entered (s : SD) (i : Nat) (l : List Prt) : SD := { s with p := s.p.set i l, sets := add s.sets (mskP l) }
theorem at_entered {s : SD} {i : Nat} (l : List Prt) (hi : i < s.p.length) : (entered s i l).at i = l := by
  unfold entered SD.at
  rw [List.getD_eq_getElem?_getD, List.getElem?_set_self hi]
  rfl
theorem at_other {s : SD} {i k : Nat} (l : List Prt) (h : k ≠ i) : (entered s i l).at k = s.at k := by
  unfold entered SD.at
  rw [List.getD_eq_getElem?_getD, List.getD_eq_getElem?_getD, List.getElem?_set_ne (fun e => h e.symm)]
theorem Lk.enter {i g : Nat} (h : Lk (some i) tab seat s) (ha : al s i g) (hp : s.r.gens.length ≤ s.p.length) {l : List Prt} (hl : okE s.ws l) {own : List (Nat × Nat)} (ho : tab (s.sets.idxOf (mskP l)) = some own ∨ (tab (s.sets.idxOf (mskP l)) = none ∧ own = [])) :
    Lk none (tput tab (s.sets.idxOf (mskP l)) (some (own ++ [(i, g)]))) (seat.set i (s.sets.idxOf (mskP l), own.length)) (entered s i l) := by
  have hi := al_lt ha
  have his : i < seat.length := by rw [h.len]; exact hi
  have hip : i < s.p.length := by omega
  have hset : (add s.sets (mskP l))[s.sets.idxOf (mskP l)]? = some (mskP l) := At.add_get _ _
  have hold : ∀ n m, s.sets[n]? = some m → (add s.sets (mskP l))[n]? = some m := fun n m q => (At.add_old _ (List.getElem?_eq_some_iff.1 q).1).trans q
  have ala : ∀ k q, al (entered s i l) k q ↔ al s k q := fun k q => Iff.rfl
  have hown : ∀ (j : Nat) i' g', own[j]? = some (i', g') → al s i' g' ∧ some i ≠ some i' ∧ seat[i']? = some (s.sets.idxOf (mskP l), j) ∧ s.sets[s.sets.idxOf (mskP l)]? = some (mskP (s.at i')) := by
    intro j i' g' e
    rcases ho with ho | ⟨_, rfl⟩
    · exact (h.back _ own ho).2 j i' g' e
    · simp at e
  refine ⟨?_, ?_, ?_, ?_⟩
  · simpa [entered] using h.len
  · intro k q hk _
    rw [ala] at hk
    by_cases e : k = i
    · subst e
      obtain rfl := al_gen ha hk
      refine ⟨_, _, _, List.getElem?_set_self his, tput_same _ _ _, by simp, ?_⟩
      rw [at_entered l hip]
      exact hset
    · obtain ⟨n, j, own', e1, e2, e3, e4⟩ := h.here k q hk (fun q => e (by simpa using q.symm))
      rw [at_other l e]
      by_cases en : n = s.sets.idxOf (mskP l)
      · rw [en] at e2 e1
        have eo : own = own' := by
          rcases ho with ho | ⟨ho, _⟩
          · rw [ho] at e2; simpa using e2
          · rw [ho] at e2; cases e2
        subst eo
        refine ⟨_, j, _, ?_, tput_same _ _ _, ?_, hold _ _ (en ▸ e4)⟩
        · rw [List.getElem?_set_ne fun q => e q.symm]; exact e1
        · rw [List.getElem?_append_left (List.getElem?_eq_some_iff.1 e3).1]; exact e3
      · refine ⟨n, j, own', ?_, by rw [tput_ne _ en]; exact e2, e3, hold _ _ e4⟩
        rw [List.getElem?_set_ne fun q => e q.symm]; exact e1
  · intro n own' e2
    by_cases en : n = s.sets.idxOf (mskP l)
    · subst en
      rw [tput_same] at e2
      simp at e2
      subst e2
      refine ⟨by simp, ?_⟩
      intro j i' g' e
      rw [List.getElem?_append] at e
      split at e
      · obtain ⟨b1, b2, b3, b4⟩ := hown j i' g' e
        have hne : i' ≠ i := fun q => b2 (by rw [q])
        exact ⟨b1, by simp, by rw [List.getElem?_set_ne fun q => hne q.symm]; exact b3, by rw [at_other l hne]; exact hold _ _ b4⟩
      · rename_i hj
        have hj' : j - own.length = 0 := by
          have := (List.getElem?_eq_some_iff.1 e).1
          simp at this
          omega
        rw [hj'] at e
        simp at e
        obtain ⟨rfl, rfl⟩ := e
        refine ⟨ha, by simp, ?_, ?_⟩
        · rw [List.getElem?_set_self his]
          congr 2
          omega
        · rw [at_entered l hip]; exact hset
    · rw [tput_ne _ en] at e2
      refine ⟨(h.back n own' e2).1, ?_⟩
      intro j i' g' e
      obtain ⟨b1, b2, b3, b4⟩ := (h.back n own' e2).2 j i' g' e
      have hne : i' ≠ i := fun q => b2 (by rw [q])
      exact ⟨b1, by simp, by rw [List.getElem?_set_ne fun q => hne q.symm]; exact b3, by rw [at_other l hne]; exact hold _ _ b4⟩
  · intro k q hk _
    rw [ala] at hk
    by_cases e : k = i
    · subst e
      rw [at_entered l hip]
      exact hl
    · rw [at_other l e]
      exact h.ok k q hk (fun q => e (by simpa using q.symm))
theorem al_took {f : List Nat} {i : Nat} (hok : s.r.ok) (hf : s.r.free = f ++ [i]) (k g : Nat) : al { s with r := s.r.took i } k g ↔ (k = i ∧ g = s.r.gens.getD i 0 + 1) ∨ al s k g := by
  unfold al
  show (s.r.took i).aliveB _ _ = true ↔ _
  rw [RS.took_alive hok hf]
  split
  · rename_i hc
    simp only [true_iff]
    exact .inl ⟨by omega, by have := hc.2; omega⟩
  · rename_i hc
    constructor
    · exact .inr
    · rintro (⟨rfl, rfl⟩ | q)
      · exact absurd ⟨rfl, rfl⟩ hc
      · exact q
theorem Lk.take (h : Lk none tab seat s) {f : List Nat} {i : Nat} (hok : s.r.ok) (hf : s.r.free = f ++ [i]) : Lk (some i) tab seat { s with r := s.r.took i } := by
  have hdead : ∀ g, ¬ al s i g := fun g q => by
    rw [al_iff, hf] at q
    simp at q
  refine ⟨?_, ?_, ?_, ?_⟩
  · simpa [RS.took] using h.len
  · intro k g hk hne
    rcases (al_took hok hf k g).1 hk with ⟨rfl, -⟩ | hk
    · exact absurd rfl hne
    · exact h.here k g hk (by simp)
  · intro n own e
    refine ⟨(h.back n own e).1, fun j k g ek => ?_⟩
    obtain ⟨b1, b2, b3⟩ := (h.back n own e).2 j k g ek
    exact ⟨(al_took hok hf k g).2 (.inr b1), fun q => hdead g (by simp at q; rw [q]; exact b1), b3⟩
  · intro k g hk hne
    rcases (al_took hok hf k g).1 hk with ⟨rfl, -⟩ | hk
    · exact absurd rfl hne
    · exact h.ok k g hk (by simp)
theorem al_freed {i g : Nat} (ha : al s i g) (k q : Nat) : al { s with r := s.r.freed i } k q ↔ al s k q ∧ k ≠ i := by
  unfold al
  show (s.r.freed i).aliveB _ _ = true ↔ _
  have := RS.freed_alive (r := s.r) ha (k : Int) (q : Int)
  rw [Int.toNat_natCast] at this
  rw [this]
  split
  · rename_i hc
    simp only [Bool.false_eq_true, false_iff]
    rintro ⟨-, hne⟩
    exact hne (by omega)
  · rename_i hc
    constructor
    · intro hk
      refine ⟨hk, fun e => hc ⟨by omega, ?_⟩⟩
      subst e
      have := al_gen ha hk
      omega
    · exact fun hk => hk.1
theorem Lk.free {i g : Nat} (h : Lk (some i) tab seat s) (ha : al s i g) : Lk none tab seat { s with r := s.r.freed i } := by
  refine ⟨h.len, ?_, ?_, ?_⟩
  · intro k q hk _
    obtain ⟨h1, h2⟩ := (al_freed ha k q).1 hk
    exact h.here k q h1 fun e => h2 (by simpa using e.symm)
  · intro n own e
    refine ⟨(h.back n own e).1, fun j k q ek => ?_⟩
    obtain ⟨b1, b2, b3⟩ := (h.back n own e).2 j k q ek
    exact ⟨(al_freed ha k q).2 ⟨b1, fun e => b2 (by rw [e])⟩, by simp, b3⟩
  · intro k q hk _
    obtain ⟨h1, h2⟩ := (al_freed ha k q).1 hk
    exact h.ok k q h1 fun e => h2 (by simpa using e.symm)
/-- A row of parts of the same set. -/
def rowed (s : SD) (i : Nat) (l : List Prt) : SD := { s with p := s.p.set i l }
theorem at_rowed {s : SD} {i : Nat} (l : List Prt) (hi : i < s.p.length) : (rowed s i l).at i = l := by
  unfold rowed SD.at
  rw [List.getD_eq_getElem?_getD, List.getElem?_set_self hi]
  rfl
theorem at_rowed_other {s : SD} {i k : Nat} (l : List Prt) (h : k ≠ i) : (rowed s i l).at k = s.at k := by
  unfold rowed SD.at
  rw [List.getD_eq_getElem?_getD, List.getD_eq_getElem?_getD, List.getElem?_set_ne (fun e => h e.symm)]
theorem Lk.put (h : Lk none tab seat s) {i : Nat} {l : List Prt} (hi : i < s.p.length) (hm : mskP l = mskP (s.at i)) (hl : okE s.ws l) : Lk none tab seat (rowed s i l) := by
  have e : ∀ k, mskP ((rowed s i l).at k) = mskP (s.at k) := fun k => by
    by_cases q : k = i
    · rw [q, at_rowed l hi, hm]
    · rw [at_rowed_other l q]
  refine ⟨h.len, ?_, ?_, ?_⟩
  · intro k q hk _
    rw [e]
    exact h.here k q hk (by simp)
  · intro n own en
    refine ⟨(h.back n own en).1, fun j k q ek => ?_⟩
    rw [e]
    exact (h.back n own en).2 j k q ek
  · intro k q hk _
    by_cases ek : k = i
    · rw [ek, at_rowed l hi]; exact hl
    · rw [at_rowed_other l ek]; exact h.ok k q hk (by simp)
end
end Go.Proofs.YtagjmggiaffihaaGreatDoor.So
namespace Go.Proofs.YtagjmggiaffihaaGreatDoor.So
open Go.RowKit Go.Shelf Go.Maps
open Go.Proofs.YtagjmggiaffihaaGreatDoor.Co (I64 Pt Col CS)
open Go.Proofs.YtagjmggiaffihaaGreatDoor.At (St bAl cell_blk blk_seen blk_free lst lst_mem an wi wo add Atl Ints)
open Go.Proofs.YtagjmggiaffihaaGreatDoor.Ro (RS Rol Ents entCells)
open Go.Proofs.YtagjmggiaffihaaGreatDoor.Rs (Prt SD okL okW okC fitP mskP st_ro ro_st)
theorem co_st {S : Nat → Prop} {a b : World} (h : St S a b) : Co.St S a b := ⟨h.os, h.tape, h.output, h.size, h.block⟩
theorem st_co {S : Nat → Prop} {a b : World} (h : Co.St S a b) : St S a b := ⟨h.os, h.tape, h.output, h.size, h.block⟩
theorem zeroTab (w : World) : (zeroValue 142).run Tryz.prog w = .ok (.pointer none) w := by kernel_rfl
theorem zeroCol (w : World) : (zeroValue 157).run Tryz.prog w = .ok (.pointer none) w := by kernel_rfl
theorem own_kept {B : Nat} {W W' : World} {ty : TypeId} {sz : Nat} {v : Value} {n : Nat} {l : List Value} {T : Nat → Prop} (h : W.ownsRow B ty sz v n l) (hs : St T W W') (hn : ∀ k, v.ownBlock = some k → ¬ T k) : W'.ownsRow B ty sz v n l :=
  ⟨h.1, h.2.elim .inl fun ⟨g, cap, cur, h1, h2, h3, h4⟩ => .inr ⟨g, cap, cur, h1, h2, hs.at h3 (hn g (by rw [h1]; rfl)), h4⟩⟩
theorem own_blk {B : Nat} {W : World} {ty : TypeId} {sz : Nat} {v : Value} {n : Nat} {l : List Value} (h : W.ownsRow B ty sz v n l) {k : Nat} (hk : v.ownBlock = some k) : ∃ c, W.heap[k]? = some (.cells c ty (0, 0)) := by
  rcases h.2 with ⟨h1, -⟩ | ⟨g, cap, cur, h1, h2, h3, h4⟩
  · rw [h1] at hk; simp [Value.ownBlock] at hk
  · rw [h1] at hk
    obtain rfl : g = k := by simpa [Value.ownBlock] using hk
    exact ⟨_, h3⟩
/-- The colours of blocks are others, those of C alone. -/
structure Rec (C : Nat × Nat × Nat → Prop) (f f' : Nat → Nat × Nat × Nat) (N N' : Nat) : Prop where
  out : ∀ l, l ≠ (0, 0, 0) → ¬ C l → ∀ k, f' k = l ↔ f k = l
  new : ∀ k, C (f' k) → C (f k) ∨ N ≤ k
  lt : ∀ k, f' k ≠ (0, 0, 0) → k < N'
theorem Rec.refl (C : Nat × Nat × Nat → Prop) (f : Nat → Nat × Nat × Nat) {N N' : Nat} (h : ∀ k, f k ≠ (0, 0, 0) → k < N) (hN : N ≤ N') : Rec C f f N N' :=
  ⟨fun _ _ _ _ => Iff.rfl, fun _ q => .inl q, fun k q => Nat.lt_of_lt_of_le (h k q) hN⟩
theorem Rec.trans {C : Nat × Nat × Nat → Prop} {f f1 f2 : Nat → Nat × Nat × Nat} {N N1 N2 : Nat} (h : Rec C f f1 N N1) (k : Rec C f1 f2 N1 N2) (hN : N ≤ N1) : Rec C f f2 N N2 :=
  ⟨fun l h0 hc x => (k.out l h0 hc x).trans (h.out l h0 hc x), fun x hx => (k.new x hx).elim (h.new x) fun q => .inr (Nat.le_trans hN q), k.lt⟩
theorem Rec.mono {C C' : Nat × Nat × Nat → Prop} {f f' : Nat → Nat × Nat × Nat} {N N' : Nat} (h : Rec C f f' N N') (hC : ∀ l, C l → C' l) (h0 : ¬ C' (0, 0, 0)) : Rec C' f f' N N' := by
  refine ⟨fun l hl hc => h.out l hl fun q => hc (hC l q), fun k hk => ?_, h.lt⟩
  by_cases q : C (f' k)
  · exact (h.new k q).imp (hC _) id
  · have e := (h.out (f' k) (fun e => h0 (e ▸ hk)) q k).1 rfl
    exact .inl (by rw [e]; exact hk)
theorem recol (f : Nat → Nat × Nat × Nat) {l : Nat × Nat × Nat} (hl : l ≠ (0, 0, 0)) {S : Nat → Prop} {N N' : Nat} (hS : ∀ k, S k → f k = l ∨ N ≤ k) (hlt : ∀ k, f k ≠ (0, 0, 0) → k < N) (hS' : ∀ k, S k → k < N') (hN : N ≤ N') :
    ∃ f', (∀ k, f' k = l ↔ S k) ∧ Rec (fun x => x = l) f f' N N' := by
  classical
  refine ⟨fun k => if S k then l else if f k = l then (0, 0, 0) else f k, fun k => ?_, ⟨fun l' h0 hc k => ?_, fun k hk => ?_, fun k hk => ?_⟩⟩
  · by_cases h : S k
    · simp [h]
    · by_cases e : f k = l
      · simp only [h, e, if_true, if_false]
        exact ⟨fun q => absurd q.symm hl, fun q => q.elim⟩
      · simp [h, e]
  · by_cases h : S k
    · simp only [h, if_true]
      refine ⟨fun e => absurd e.symm hc, fun e => ?_⟩
      rcases hS k h with q | q
      · rw [q] at e; exact absurd e.symm hc
      · have := hlt k (by rw [e]; exact h0)
        omega
    · by_cases e : f k = l
      · simp only [h, e, if_true, if_false]
        exact ⟨fun q => absurd q.symm h0, fun q => absurd q.symm hc⟩
      · simp [h, e]
  · by_cases h : S k
    · exact hS k h
    · by_cases e : f k = l
      · exact .inl e
      · simp only [h, e, if_false] at hk
  · by_cases h : S k
    · exact hS' k h
    · by_cases e : f k = l
      · simp [h, e] at hk
      · simp only [h, e, if_false] at hk
        exact Nat.lt_of_lt_of_le (hlt k hk) hN
theorem col_congr {B : Nat} {W : World} {rb : Nat} {s : CS} {S S' : Nat → Prop} (h : Col B W rb s S) (he : ∀ k, S' k ↔ S k) : Col B W rb s S' := by
  obtain ⟨mb, sv, h1, h2⟩ := h
  exact ⟨mb, sv, h1, fun k => (he k).trans (h2 k)⟩
theorem atl_congr {B : Nat} {W : World} {rb : Nat} {s : At.AS} {S S' : Nat → Prop} (h : Atl B W rb s S) (he : ∀ k, S' k ↔ S k) : Atl B W rb s S' := by
  obtain ⟨mb, sv, h1, h2⟩ := h
  exact ⟨mb, sv, h1, fun k => (he k).trans (h2 k)⟩
theorem rol_congr {B : Nat} {W : World} {rb t : Nat} {r : RS} {S S' : Nat → Prop} (h : Rol B W rb t r S) (he : ∀ k, S' k ↔ S k) : Rol B W rb t r S' := by
  obtain ⟨gb, mb, fv, h1, h2⟩ := h
  exact ⟨gb, mb, fv, h1, fun k => (he k).trans (h2 k)⟩
/-- Where a table's pieces lie. -/
structure TV where
  tb : Nat
  ov : Value
  cm : Nat
  cb : Nat → Nat
/-- The colours of a table. -/
def cls (n : Nat) (l : Nat × Nat × Nat) : Prop := l = (4, n, 0) ∨ ∃ c, l = (5, n, c)
theorem cls_zero (n : Nat) : ¬ cls n (0, 0, 0) := by
  rintro (h | ⟨c, h⟩) <;> simp at h
theorem cls_one {n m : Nat} {l : Nat × Nat × Nat} (h : cls n l) (h' : cls m l) : n = m := by
  rcases h with rfl | ⟨c, rfl⟩ <;> rcases h' with h' | ⟨c', h'⟩ <;> simp at h' <;> omega
def colMap (m : Nat) (cb : Nat → Nat) : Nat → Option Nat := fun c => if m.testBit c = true then some (cb c) else none
/-- A table in memory. -/
structure Tb (B : Nat) (W : World) (f : Nat → Nat × Nat × Nat) (n : Nat) (x : TV) (m : Nat) (ws : List Nat) (own : List (Nat × Nat)) (rows : Nat → List Pt) : Prop where
  box : W.heap[x.tb]? = some (.cells #[.int .u32 (m : Int), x.ov, .map (some x.cm)] 152 (0, 0))
  own : Ents B W x.ov own
  map : PMap W x.cm (colMap m x.cb)
  col : ∀ c, m.testBit c = true → ∃ w, ws[c]? = some w ∧ Col B W (x.cb c) ⟨(c : Int), w, rows c⟩ (fun k => f k = (5, n, c))
  fp : ∀ k, f k = (4, n, 0) ↔ k = x.tb ∨ k = x.cm ∨ x.ov.ownBlock = some k
  low : B ≤ x.tb ∧ B ≤ x.cm
section
variable {B : Nat} {W W' : World} {f f' : Nat → Nat × Nat × Nat} {n : Nat} {x : TV} {m : Nat} {ws : List Nat} {own : List (Nat × Nat)} {rows : Nat → List Pt}
theorem Tb.ftb (h : Tb B W f n x m ws own rows) : f x.tb = (4, n, 0) := (h.fp _).2 (.inl rfl)
theorem Tb.fcm (h : Tb B W f n x m ws own rows) : f x.cm = (4, n, 0) := (h.fp _).2 (.inr (.inl rfl))
theorem Tb.fov (h : Tb B W f n x m ws own rows) {k : Nat} (hk : x.ov.ownBlock = some k) : f k = (4, n, 0) := (h.fp _).2 (.inr (.inr hk))
theorem Tb.move {T : Nat → Prop} (h : Tb B W f n x m ws own rows) (hs : St T W W') (hd : ∀ k, cls n (f k) → ¬ T k) (hf : ∀ l, cls n l → ∀ k, f' k = l ↔ f k = l) : Tb B W' f' n x m ws own rows where
  box := hs.at h.box (hd _ (.inl h.ftb))
  own := own_kept h.own hs fun k hk => hd k (.inl (h.fov hk))
  map := h.map.kept hs (hd _ (.inl h.fcm))
  col := fun c hc => by
    obtain ⟨w, h1, h2⟩ := h.col c hc
    exact ⟨w, h1, col_congr (h2.kept (co_st hs) fun k hk => hd k (.inr ⟨c, hk⟩)) fun k => hf _ (.inr ⟨c, rfl⟩) k⟩
  fp := fun k => (hf _ (.inl rfl) k).trans (h.fp k)
  low := h.low
theorem Tb.later (h : Tb B W f n x m ws own rows) (hb : Below W.heap.size W W') : Tb B W' f n x m ws own rows :=
  h.move (T := fun _ => False) (St.of_below hb) (fun _ _ q => q) fun _ _ _ => Iff.rfl
theorem Tb.c0 (h : Tb B W f n x m ws own rows) : W.cell? ⟨x.tb, 0, none⟩ = some (.int .u32 (m : Int)) := cell_blk h.box rfl
theorem Tb.c1 (h : Tb B W f n x m ws own rows) : W.cell? ⟨x.tb, 1, none⟩ = some x.ov := cell_blk h.box rfl
theorem Tb.c2 (h : Tb B W f n x m ws own rows) : W.cell? ⟨x.tb, 2, none⟩ = some (.map (some x.cm)) := cell_blk h.box rfl
theorem Tb.ne (h : Tb B W f n x m ws own rows) : x.tb ≠ x.cm := h.map.cells_ne h.box
theorem Tb.ne_ov (h : Tb B W f n x m ws own rows) {k : Nat} (hk : x.ov.ownBlock = some k) : k ≠ x.tb ∧ k ≠ x.cm := by
  obtain ⟨c, hc⟩ := own_blk h.own hk
  refine ⟨fun e => ?_, h.map.cells_ne hc⟩
  rw [e, h.box] at hc
  simp at hc
theorem Tb.lt (h : Tb B W f n x m ws own rows) {k : Nat} (hk : cls n (f k)) (hm : ∀ c, f k = (5, n, c) → m.testBit c = true) : B ≤ k ∧ k < W.heap.size := by
  rcases hk with hk | ⟨c, hk⟩
  · rcases (h.fp k).1 hk with rfl | rfl | e
    · exact ⟨h.low.1, (Array.getElem?_eq_some_iff.1 h.box).1⟩
    · exact ⟨h.low.2, h.map.lt⟩
    · exact World.ownsRow.lt h.own k e
  · obtain ⟨w, h1, h2⟩ := h.col c (hm c hk)
    exact h2.lt k hk
theorem Tb.look (h : Tb B W f n x m ws own rows) (i : Int) (hi : I64 i) :
    (Instr.lookup 150 (.map (some x.cm)) (.int .i64 i) false).run Tryz.prog W = .ok (ptrV (lk (colMap m x.cb) i)) W := h.map.look Tryz.underlying150 (zeroCol W) i hi
theorem Tb.look_ok (h : Tb B W f n x m ws own rows) (i : Int) (hi : I64 i) :
    (Instr.lookup 150 (.map (some x.cm)) (.int .i64 i) true).run Tryz.prog W = .ok (.tuple #[ptrV (lk (colMap m x.cb) i), .bool (lk (colMap m x.cb) i).isSome]) W := h.map.look_ok Tryz.underlying150 (zeroCol W) i hi
end
/-- Where a store's pieces lie. -/
structure CV where
  wv : Value
  ab : Nat
  tm : Nat
  rb : Nat
  sv : Nat
  t : Nat
  seat : List (Nat × Nat)
  tab : Nat → Option (List (Nat × Nat))
  tv : Nat → TV
  f : Nat → Nat × Nat × Nat
def CV.box (c : CV) : Array Value := #[c.wv, .pointer (some ⟨c.ab, 0, none⟩), .map (some c.tm), .pointer (some ⟨c.rb, 0, none⟩), .slice (some ⟨c.sv, 0, none⟩) c.seat.length c.seat.length]
/-- The rows of a component. -/
def rowsOf (s : SD) (own : List (Nat × Nat)) (c : Nat) : List Pt := own.map fun e => ptAt (s.at e.1) c
def tabMap (tab : Nat → Option (List (Nat × Nat))) (tv : Nat → TV) : Nat → Option Nat := fun n => (tab n).map fun _ => (tv n).tb
structure Sto (ex : Option Nat) (B : Nat) (W : World) (sb : Nat) (c : CV) (s : SD) : Prop where
  box : W.heap[sb]? = some (.cells c.box 115 (0, 0))
  wd : Ints B W c.wv s.ws
  atl : Atl B W c.ab ⟨s.ws.length, s.sets⟩ (fun k => c.f k = (3, 0, 0))
  rol : Rol B W c.rb c.t s.r (fun k => c.f k = (2, 0, 0))
  seats : W.heap[c.sv]? = some (.cells (entCells c.seat).toArray 218 (0, 0))
  map : PMap W c.tm (tabMap c.tab c.tv)
  tabs : ∀ n own, c.tab n = some own → ∃ m, s.sets[n]? = some m ∧ Tb B W c.f n (c.tv n) m s.ws own (rowsOf s own)
  fp : ∀ k, c.f k = (1, 0, 0) ↔ k = sb ∨ k = c.tm ∨ k = c.sv ∨ c.wv.ownBlock = some k
  lt : ∀ k, c.f k ≠ (0, 0, 0) → B ≤ k ∧ k < W.heap.size
  okw : okW s.ws
  n2 : s.p.length = 64
  lk : Lk ex c.tab c.seat s
  only : ∀ k n, cls n (c.f k) → c.tab n ≠ none
  small : c.t ≤ 900000
section
variable {ex : Option Nat} {B : Nat} {W W' : World} {sb : Nat} {c : CV} {s : SD}
theorem Sto.fsb (h : Sto ex B W sb c s) : c.f sb = (1, 0, 0) := (h.fp _).2 (.inl rfl)
theorem Sto.ftm (h : Sto ex B W sb c s) : c.f c.tm = (1, 0, 0) := (h.fp _).2 (.inr (.inl rfl))
theorem Sto.fsv (h : Sto ex B W sb c s) : c.f c.sv = (1, 0, 0) := (h.fp _).2 (.inr (.inr (.inl rfl)))
theorem Sto.fwv (h : Sto ex B W sb c s) {k : Nat} (hk : c.wv.ownBlock = some k) : c.f k = (1, 0, 0) := (h.fp _).2 (.inr (.inr (.inr hk)))
theorem cls_ne {n : Nat} {l : Nat × Nat × Nat} (h : cls n l) : l ≠ (0, 0, 0) ∧ l ≠ (1, 0, 0) ∧ l ≠ (2, 0, 0) ∧ l ≠ (3, 0, 0) := by
  rcases h with rfl | ⟨c, rfl⟩ <;> simp
theorem Sto.keep {T : Nat → Prop} (h : Sto ex B W sb c s) (hs : St T W W') (hd : ∀ k, c.f k ≠ (0, 0, 0) → ¬ T k) : Sto ex B W' sb c s where
  box := hs.at h.box (hd _ (by rw [h.fsb]; simp))
  wd := own_kept h.wd hs fun k hk => hd k (by rw [h.fwv hk]; simp)
  atl := h.atl.kept hs fun k hk => hd k (by rw [hk]; simp)
  rol := h.rol.kept (st_ro hs) fun k hk => hd k (by rw [hk]; simp)
  seats := hs.at h.seats (hd _ (by rw [h.fsv]; simp))
  map := h.map.kept hs (hd _ (by rw [h.ftm]; simp))
  tabs := fun n own hn => by
    obtain ⟨m, h1, h2⟩ := h.tabs n own hn
    exact ⟨m, h1, h2.move hs (fun k hk => hd k (cls_ne hk).1) fun _ _ _ => Iff.rfl⟩
  fp := h.fp
  lt := fun k hk => ⟨(h.lt k hk).1, Nat.lt_of_lt_of_le (h.lt k hk).2 hs.size⟩
  okw := h.okw
  n2 := h.n2
  lk := h.lk
  only := h.only
  small := h.small
theorem Sto.later (h : Sto ex B W sb c s) (hb : Below W.heap.size W W') : Sto ex B W' sb c s := h.keep (T := fun _ => False) (St.of_below hb) fun _ _ q => q
theorem Sto.c0 (h : Sto ex B W sb c s) : W.cell? ⟨sb, 0, none⟩ = some c.wv := cell_blk h.box rfl
theorem Sto.c1 (h : Sto ex B W sb c s) : W.cell? ⟨sb, 1, none⟩ = some (.pointer (some ⟨c.ab, 0, none⟩)) := cell_blk h.box rfl
theorem Sto.c2 (h : Sto ex B W sb c s) : W.cell? ⟨sb, 2, none⟩ = some (.map (some c.tm)) := cell_blk h.box rfl
theorem Sto.c3 (h : Sto ex B W sb c s) : W.cell? ⟨sb, 3, none⟩ = some (.pointer (some ⟨c.rb, 0, none⟩)) := cell_blk h.box rfl
theorem Sto.c4 (h : Sto ex B W sb c s) : W.cell? ⟨sb, 4, none⟩ = some (.slice (some ⟨c.sv, 0, none⟩) c.seat.length c.seat.length) := cell_blk h.box rfl
theorem Sto.big (h : Sto ex B W sb c s) : B ≤ W.heap.size := by have := h.lt sb (by rw [h.fsb]; simp); omega
theorem ent_at {l : List (Nat × Nat)} {j : Nat} {p : Nat × Nat} (h : l[j]? = some p) : (entCells l)[j * 2]? = some (.int .i64 (p.1 : Int)) ∧ (entCells l)[j * 2 + 1]? = some (.int .i64 (p.2 : Int)) := by
  induction l generalizing j with
  | nil => simp at h
  | cons a l ih =>
    have e : entCells (a :: l) = [Ro.gI a.1, Ro.gI a.2] ++ entCells l := by simp [entCells]
    cases j with
    | zero =>
      simp at h
      subst h
      rw [e]
      exact ⟨rfl, rfl⟩
    | succ j =>
      have := ih (j := j) (by simpa using h)
      rw [e, show (j + 1) * 2 = j * 2 + 2 by omega, show j * 2 + 2 + 1 = j * 2 + 1 + 2 by omega]
      exact this
theorem Sto.seat_at (h : Sto ex B W sb c s) {i n j : Nat} (hi : c.seat[i]? = some (n, j)) : W.cell? ⟨c.sv, i * 2, none⟩ = some (.int .i64 (n : Int)) ∧ W.cell? ⟨c.sv, i * 2 + 1, none⟩ = some (.int .i64 (j : Int)) := by
  have := ent_at hi
  exact ⟨cell_blk h.seats (by simpa using this.1), cell_blk h.seats (by simpa using this.2)⟩
theorem Sto.look (h : Sto ex B W sb c s) (i : Int) (hi : I64 i) :
    (Instr.lookup 109 (.map (some c.tm)) (.int .i64 i) false).run Tryz.prog W = .ok (ptrV (So.lk (tabMap c.tab c.tv) i)) W := h.map.look Tryz.underlying109 (zeroTab W) i hi
theorem Sto.look_ok (h : Sto ex B W sb c s) (i : Int) (hi : I64 i) :
    (Instr.lookup 109 (.map (some c.tm)) (.int .i64 i) true).run Tryz.prog W = .ok (.tuple #[ptrV (So.lk (tabMap c.tab c.tv) i), .bool (So.lk (tabMap c.tab c.tv) i).isSome]) W := h.map.look_ok Tryz.underlying109 (zeroTab W) i hi
end
end Go.Proofs.YtagjmggiaffihaaGreatDoor.So
