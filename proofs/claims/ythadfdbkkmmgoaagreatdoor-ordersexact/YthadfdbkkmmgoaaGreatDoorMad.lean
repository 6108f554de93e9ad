/- A part of the proof. -/
import Derived.Test.YthadfdbkkmmgoaaGreatDoorMac
set_option maxHeartbeats 3200000
namespace Go.Proofs.YthadfdbkkmmgoaaGreatDoor
namespace Rs
open Go.RowKit Go.Shelf Go.Maps
open At (St bAl zaa zab zad)
theorem zha {W1 wr w2 : World} {v : Value} {q : List Prt} {n : Nat} (hb : Below W1.heap.size W1 wr) (hp : Prts W1.heap.size wr v q) (hst : St (fun x => v.ownBlock = some x) (wr.drewN n) w2) : Below W1.heap.size W1 w2 := by
 have b1 := hb.trans ((zad wr n).mono hb.size)
 exact b1.trans (hst.below (fun x hx => (hp.lt x hx).1) b1.size)
set_option maxRecDepth 100000 in
theorem zff (W : World) (v : Value) (l : List Prt) (p : Prt) (h : PRow W v l) (hl : l.length <= 900) :
  Calls Tryz.prog 106 #[v, .agg #[.int .i64 p.c, .int .i64 p.v0, .int .i64 p.v1, .int .i64 p.v2, .int .i64 p.v3, .int .i64 p.t]] W fun e W' => ∃ v', e = .returned v' /\ Prts W.heap.size W' v' (insP l p) /\ Below W.heap.size W W' := by
 have B1 := hid (bAl W (.cells p.arr 89))
 have H := hid (h.later B1.out)
 obtain ⟨a, c, rfl, -⟩ := h
 have hli : (l.length : Int) <= 900 := by omega
 obtain ⟨W1, hW1⟩ : ∃ W1, W1 = W.alloc (.cells p.arr 89) := ⟨_, rfl⟩
 have KB : Hid (W1.heap[W.heap.size]? = some (.cells p.arr 89 (0, 0))) := by rw [hW1]; exact heap_alloc_new W _
 have hz1 : W.heap.size + 1 = W1.heap.size := by rw [hW1]; simp
 rw [<- hW1] at H B1
 have I1 : Hid (Prts W1.heap.size (W1.alloc (.cells #[] 89)) (.slice (some ⟨W1.heap.size, 0, none⟩) 0 0) []) := znn W1
 have HW1 := hid hW1
 unfold Prt.arr at HW1
 clear hW1
 have HZ := hid hz1
 clear hz1
 go_enter Tryz.func106, Tryz.ntmps106
 go_upto_region 1 with fail
 rw [<- HW1.out]
 go_wp2_with fail
 go_loopg [5, 6, 7] l.length (fun gh ov dv i wr => ∃ (k : Nat) (d : Bool) (q : List Prt), k <= l.length /\ gh = l.length - k /\ i = .int .i64 (k : Int) /\ dv = .bool d /\ Hid (wst p (l.take k) = (d, q)) /\ Hid (Prts W1.heap.size wr ov q) /\ Hid (Below W1.heap.size W1 wr))
 case atStart => exact ⟨0, false, [], Nat.zero_le _, rfl, rfl, rfl, rfl, I1.out, bAl _ _⟩
 case round =>
  clear I1
  rename World => wr
  obtain ⟨k, d, q, hk, rfl, rfl, rfl, HS, HP, HB⟩ := hrel
  have hql : q.length <= 950 := by
   have h1 := z7l p (l.take k)
   rw [HS.out] at h1
   have h2 : (l.take k).length <= l.length := by simp; omega
   simp only at h1
   split at h1 <;> omega
  have hw1 : W1.heap.size <= wr.heap.size := HB.out.size
  obtain ⟨e0, e1, e2, e3, e4, e5⟩ := zyg (zab HB.out (Nat.le_refl _) KB.out)
  have hbl : W.heap.size < wr.heap.size := World.block_lt_of_cell? _ _ e0
  have hbn : ¬ (W.heap.size = wr.heap.size) := by omega
  obtain ⟨oa, oc, rfl⟩ := HP.out.slice
  by_cases hlt : k < l.length
  ·have hki : (k : Int) < (l.length : Int) := by omega
   obtain ⟨x, hx⟩ := zal l k hlt
   obtain ⟨b, o, rfl, six⟩ := (H.out.later HB.out).at hx
   have WN := hid (z4g p hx)
   rw [HS.out] at WN
   obtain ⟨d0, d1, d2, d3, d4, d5⟩ := six
   have SX : Hid (∀ W', Below wr.heap.size wr W' -> Six W' b (o + k * 6) x) := fun W' hb => Six.later ⟨d0, d1, d2, d3, d4, d5⟩ hb
   have HX := hid hx
   clear hx SX
   have hul : q.length <= 1000 := by omega
   cases d with
   | true =>
    have E : Hid (wst p (l.take (k + 1)) = (true, q ++ [x])) := WN.out
    clear WN
    go_wp2_with fail
    go_quiet (fail)
    go_wp2_with (at_builtin; refine zbm (p := x) rfl _ _ rfl (HP.out.later (zad _ _)) hul (by exact hw1) rfl rfl ?_; intro v' w2 ho hst)
    have B2 := hid (zha HB.out HP.out hst.out)
    go_roundg (l.length - (k + 1))
    case measure => omega
    case rel => exact ⟨k + 1, true, q ++ [x], by omega, rfl, by go_num, rfl, E.out, ho.out, B2.out⟩
   | false =>
    by_cases hc : p.c < x.c
    ·have hd : decide (p.c < x.c) = true := decide_eq_true hc
     have E : Hid (wst p (l.take (k + 1)) = (true, q ++ [p] ++ [x])) := by
      show _ = _
      rw [WN.out]
      simp [hc]
     clear WN hc
     go_wp2_with fail
     go_quiet (fail)
     clear d0 d1 d2 d3 d4 d5
     go_upto_region 9 with (at_builtin; refine zbm (p := p) rfl _ _ rfl (HP.out.later (zad _ _)) hul (by exact hw1) rfl rfl ?_; intro v2 w2 ho hst)
     have B2 := hid (zha HB.out HP.out hst.out)
     obtain ⟨b', o', hbo, six2⟩ := (H.out.later B2.out).at HX.out
     obtain ⟨rfl, rfl⟩ : b = b' /\ o = o' := by simpa using hbo
     obtain ⟨d0, d1, d2, d3, d4, d5⟩ := six2
     have hw2 : W1.heap.size <= w2.heap.size := B2.out.size
     have hul2 : (q ++ [p]).length <= 1000 := by simp; omega
     obtain ⟨a2, c2, rfl⟩ := Prts.slice ho.out
     clear HP hst e0 e1 e2 e3 e4 e5 hbo
     go_wp2_with (at_builtin; refine zbm (p := x) rfl _ _ rfl ho.out hul2 (by exact hw2) rfl rfl ?_; intro v3 w3 ho3 hst3)
     have B3 := hid (zha (n := 0) B2.out ho.out hst3.out)
     go_roundg (l.length - (k + 1))
     case measure => omega
     case rel => exact ⟨k + 1, true, q ++ [p] ++ [x], by omega, rfl, by go_num, rfl, E.out, ho3.out, B3.out⟩
    have hd : decide (p.c < x.c) = false := decide_eq_false hc
    have E : Hid (wst p (l.take (k + 1)) = (false, q ++ [x])) := by
     show _ = _
     rw [WN.out]
     simp [hc]
    clear WN hc
    go_wp2_with fail
    go_quiet (fail)
    go_wp2_with (at_builtin; refine zbm (p := x) rfl _ _ rfl (HP.out.later (zad _ _)) hul (by exact hw1) rfl rfl ?_; intro v' w2 ho hst)
    have B2 := hid (zha HB.out HP.out hst.out)
    go_roundg (l.length - (k + 1))
    case measure => omega
    case rel => exact ⟨k + 1, false, q ++ [x], by omega, rfl, by go_num, rfl, E.out, ho.out, B2.out⟩
  have hki : ¬ ((k : Int) < (l.length : Int)) := by omega
  have E : Hid (wst p l = (d, q)) := by
   have := HS.out
   rw [List.take_of_length_le (by omega)] at this
   exact this
  have hul : q.length <= 1000 := by omega
  have BW : Hid (Below W.heap.size W wr) := B1.out.trans (HB.out.mono B1.out.size)
  cases d with
  | true =>
   have R : Hid (insP l p = q) := by show _ = _; unfold insP; rw [E.out]; rfl
   go_wp2_with fail
   go_ret
   exact ⟨_, rfl, by rw [R.out]; exact HP.out.lower B1.out.size, BW.out⟩
  | false =>
   have R : Hid (insP l p = q ++ [p]) := by show _ = _; unfold insP; rw [E.out]; rfl
   go_wp2_with (at_builtin; refine zbm (p := p) rfl _ _ rfl HP.out hul (by exact hw1) rfl rfl ?_; intro v' w2 ho hst)
   have B2 := hid (zha (n := 0) HB.out HP.out hst.out)
   go_ret
   exact ⟨_, rfl, by rw [R.out]; exact ho.out.lower B1.out.size, B1.out.trans (B2.out.mono B1.out.size)⟩
set_option maxRecDepth 100000 in
theorem zpa (W : World) (v : Value) (l : List Prt) (comp : Int) (h : PRow W v l) (hl : l.length <= 900) :
  Calls Tryz.prog 108 #[v, .int .i64 comp] W fun e W' => ∃ v', e = .returned v' /\ Prts W.heap.size W' v' (l.filter fun x => !(x.c == comp)) /\ Below W.heap.size W W' := by
 have H := hid h
 obtain ⟨a, c, rfl, -⟩ := h
 have hli : (l.length : Int) <= 900 := by omega
 have I1 := hid (znn W)
 go_enter Tryz.func108, Tryz.ntmps108
 go_wp2_with fail
 go_loopg [5, 6] l.length (fun gh ov i wr => ∃ k : Nat, k <= l.length /\ gh = l.length - k /\ i = .int .i64 (k : Int) /\ Hid (Prts W.heap.size wr ov ((l.take k).filter fun x => !(x.c == comp))) /\ Hid (Below W.heap.size W wr))
 case atStart => exact ⟨0, Nat.zero_le _, rfl, rfl, I1.out, bAl _ _⟩
 case round =>
  clear I1
  rename World => wr
  obtain ⟨k, hk, rfl, rfl, HP, HB⟩ := hrel
  have hw1 : W.heap.size <= wr.heap.size := HB.out.size
  by_cases hlt : k < l.length
  ·have hki : (k : Int) < (l.length : Int) := by omega
   obtain ⟨x, hx⟩ := zal l k hlt
   obtain ⟨b, o, rfl, six⟩ := (H.out.later HB.out).at hx
   obtain ⟨d0, d1, d2, d3, d4, d5⟩ := six
   have TK : Hid ((l.take (k + 1)).filter (fun x => !(x.c == comp)) = (l.take k).filter (fun x => !(x.c == comp)) ++ if x.c = comp then [] else [x]) := by
    show _ = _
    obtain ⟨hl', rfl⟩ := List.getElem?_eq_some_iff.1 hx
    rw [List.take_succ_eq_append_getElem hl', List.filter_append]
    congr 1
    by_cases e : l[k].c = comp <;> simp [e]
   have hul : ((l.take k).filter fun x => !(x.c == comp)).length <= 1000 := by
    have := List.length_filter_le (fun x : Prt => !(x.c == comp)) (l.take k)
    have h2 : (l.take k).length <= l.length := by simp; omega
    omega
   obtain ⟨oa, oc, rfl⟩ := HP.out.slice
   clear hx
   generalize (l.take k).filter (fun x => !(x.c == comp)) = q at *
   by_cases hc : x.c = comp
   ·have q1 : (x.c == comp) = true := by simp [hc]
    rw [if_pos hc, List.append_nil] at TK
    clear hc
    go_wp2_with fail
    go_roundg (l.length - (k + 1))
    case measure => omega
    case rel => exact ⟨k + 1, by omega, rfl, by go_num, by rw [TK.out]; exact HP.out, HB.out⟩
   have q1 : (x.c == comp) = false := by simp [hc]
   rw [if_neg hc] at TK
   go_wp2_with (at_builtin; refine zbm (p := x) rfl _ _ rfl HP.out hul (by exact hw1) rfl rfl ?_; intro v' w2 ho hst)
   have B2 := hid (zha (n := 0) HB.out HP.out hst.out)
   go_roundg (l.length - (k + 1))
   case measure => omega
   case rel => exact ⟨k + 1, by omega, rfl, by go_num, by rw [TK.out]; exact ho.out, B2.out⟩
  have hki : ¬ ((k : Int) < (l.length : Int)) := by omega
  have E : Hid (l.take k = l) := List.take_of_length_le (by omega)
  go_wp2_with fail
  go_ret
  exact ⟨_, rfl, by have := HP.out; rw [E.out] at this; exact this, HB.out⟩
def mskP (l : List Prt) : Nat := l.foldl (fun m x => m ||| 2 ^ x.c.toNat) 0
theorem znh (l : List Prt) (x : Prt) : mskP (l ++ [x]) = mskP l ||| 2 ^ x.c.toNat := by unfold mskP; rw [List.foldl_append]; rfl
set_option maxRecDepth 100000 in
theorem z4b (W : World) (v u : Value) (l : List Prt) (h : PRow W v l) (h' : PRow W u l) (hl : l.length <= 900) :
  Calls Tryz.prog 62 #[v, u] W fun e W' => e = .returned (.bool true) /\ Below W.heap.size W W' := by
 have H := hid h
 have H' := hid h'
 obtain ⟨a, c, rfl, -⟩ := h
 obtain ⟨a', c', rfl, -⟩ := h'
 have hli : (l.length : Int) <= 900 := by omega
 have nq := Co.neqP
 go_enter Tryz.func62, Tryz.ntmps62
 go_wp2_with fail
 go_loopg [5] l.length (fun gh i wr => ∃ k : Nat, k <= l.length /\ gh = l.length - k /\ i = .int .i64 (k : Int) /\ Hid (Below W.heap.size W wr))
 case atStart => exact ⟨0, Nat.zero_le _, rfl, rfl, Below.refl _ _⟩
 case round =>
  rename World => wr
  obtain ⟨k, hk, rfl, rfl, HB⟩ := hrel
  by_cases hlt : k < l.length
  ·have hki : (k : Int) < (l.length : Int) := by omega
   obtain ⟨p, hp⟩ := zal l k hlt
   obtain ⟨b, o, rfl, six⟩ := (H.out.later HB.out).at hp
   obtain ⟨b', o', rfl, six'⟩ := (H'.out.later HB.out).at hp
   obtain ⟨d0, d1, d2, d3, d4, d5⟩ := six
   obtain ⟨f0, f1, f2, f3, f4, f5⟩ := six'
   clear hp
   go_wp2_with fail
   go_quiet (fail)
   go_wp2_with fail
   go_roundg (l.length - (k + 1))
   case measure => omega
   case rel => exact ⟨k + 1, by omega, rfl, by go_num, HB.out.trans ((zad _ _).mono HB.out.size)⟩
  have hki : ¬ ((k : Int) < (l.length : Int)) := by omega
  go_wp2_with fail
  go_ret
  exact ⟨rfl, HB.out⟩
def zvu (W : World) (v : Value) (ws : List Nat) : Prop := ∃ a c, v = .slice a ws.length c /\ (ws = [] \/ ∃ b o, a = some ⟨b, o, none⟩ /\ ∀ (j : Nat) (x : Nat), ws[j]? = some x -> W.cell? ⟨b, o + j * 7 + 1, none⟩ = some (.int .i64 (x : Int)))
theorem zvu.later {W W' : World} {v : Value} {ws : List Nat} (h : zvu W v ws) (hb : Below W.heap.size W W') : zvu W' v ws := by
 obtain ⟨a, c, h1, h2⟩ := h
 refine ⟨a, c, h1, ?_⟩
 rcases h2 with h2 | ⟨b, o, h2, h3⟩
 ·exact .inl h2
 exact .inr ⟨b, o, h2, fun j p hj => At.seen hb (Nat.le_refl _) (h3 j p hj)⟩
def okW (ws : List Nat) : Prop := ws.length <= 16 /\ ∀ w ∈ ws, 1 <= w /\ w <= 4
def Prt.vals (p : Prt) : List Int := [p.v0, p.v1, p.v2, p.v3]
def fitP (ws : List Nat) (p : Prt) : Bool := decide (0 <= p.c) && match ws[p.c.toNat]? with
 | some w => (p.vals.drop w).all (· == 0)
 | none => false
theorem zqb {ws : List Nat} {p : Prt} (h : p.c < 0 \/ (ws.length : Int) <= p.c) : fitP ws p = false := by
 unfold fitP
 by_cases h0 : p.c < 0
 ·rw [decide_eq_false (by omega)]; rfl
 rw [List.getElem?_eq_none (by omega)]
 simp
theorem zsk {ws : List Nat} {p : Prt} {n w : Nat} (hc : p.c = (n : Int)) (hw : ws[n]? = some w) : fitP ws p = (p.vals.drop w).all (· == 0) := by
 unfold fitP
 rw [hc, Int.toNat_natCast, hw]
 simp
theorem z3o {W : World} {b k : Nat} {p : Prt} {e : TypeId} {x : Int} (h : W.heap[b]? = some (.cells p.arr e (0, 0))) (hx : p.vals[k]? = some x) : W.cell? ⟨b, 1 + k, none⟩ = some (.int .i64 x) := by
 refine zaa h ?_
 rw [Nat.add_comm]
 match k, hx with
 | 0, hx => simp [Prt.vals] at hx; subst hx; rfl
 | 1, hx => simp [Prt.vals] at hx; subst hx; rfl
 | 2, hx => simp [Prt.vals] at hx; subst hx; rfl
 | 3, hx => simp [Prt.vals] at hx; subst hx; rfl
 | k + 4, hx => simp [Prt.vals] at hx
theorem zik {l : List Int} {w k : Nat} {x : Int} (hw : w <= k) (hx : l[k]? = some x) : (l.drop w).all (· == 0) = (((l.take k).drop w).all (· == 0) && ((x == 0) && (l.drop (k + 1)).all (· == 0))) := by
 obtain ⟨hl, rfl⟩ := List.getElem?_eq_some_iff.1 hx
 have e : l.drop w = (l.take k).drop w ++ l[k] :: l.drop (k + 1) := by
  have h1 : l = l.take k ++ l[k] :: l.drop (k + 1) := by
   rw [<- List.drop_eq_getElem_cons hl, List.take_append_drop]
  have hlen : (l.take k).length = k := by simp; omega
  calc l.drop w = (l.take k ++ l[k] :: l.drop (k + 1)).drop w := by rw [<- h1]
   _ = (l.take k).drop w ++ l[k] :: l.drop (k + 1) := by rw [List.drop_append_of_le_length (by omega)]
 rw [e, List.all_append, List.all_cons]
set_option maxRecDepth 100000 in
theorem zih (W : World) (va vb : Value) (hvb : ∃ a l c, vb = .slice a l c) (ws : List Nat) (p : Prt) (h : zvu W va ws) (hok : okW ws) :
  Calls Tryz.prog 145 #[.agg #[va, vb], .agg #[.int .i64 p.c, .int .i64 p.v0, .int .i64 p.v1, .int .i64 p.v2, .int .i64 p.v3, .int .i64 p.t]] W fun e W' => e = .returned (.bool (fitP ws p)) /\ Below W.heap.size W W' := by
 obtain ⟨ba, bl, bc, rfl⟩ := hvb
 have H0 := hid h
 obtain ⟨a, c, rfl, -⟩ := h
 obtain ⟨W2, hW2⟩ : ∃ W2, W2 = (W.alloc (.cells #[.slice a ws.length c, .slice ba bl bc] 25)).alloc (.cells p.arr 89) := ⟨_, rfl⟩
 have B2 : Hid (Below W.heap.size W W2) := by rw [hW2]; exact (bAl W _).alloc (by simp) _
 have K1 : Hid (W2.heap[W.heap.size]? = some (.cells #[.slice a ws.length c, .slice ba bl bc] 25 (0, 0))) := by
  rw [hW2]; exact (Below.heap_alloc _ _ _ (by simp)).trans (heap_alloc_new W _)
 have K2 : Hid (W2.heap[W.heap.size + 1]? = some (.cells p.arr 89 (0, 0))) := by
  rw [hW2]
  have := heap_alloc_new (W.alloc (.cells #[.slice a ws.length c, .slice ba bl bc] 25)) (.cells p.arr 89)
  rw [World.size_alloc] at this
  exact this
 have HW2 := hid hW2
 unfold Prt.arr at HW2
 clear hW2
 have H2 := hid (H0.out.later B2.out)
 have s0 : W2.cell? ⟨W.heap.size, 0, none⟩ = some (.slice a ws.length c) := zaa K1.out rfl
 obtain ⟨e0, e1, e2, e3, e4, e5⟩ := zyg K2.out
 have hwl : (ws.length : Int) <= 16 := by have := hok.1; omega
 by_cases hin : p.c < 0 \/ (ws.length : Int) <= p.c
 ·have R := hid (zqb (p := p) hin)
  rcases hin with hin | hin
  ·go_enter Tryz.func145, Tryz.ntmps145
   go_upto_region 1 with fail
   rw [<- HW2.out]
   go_wp2_with fail
   go_ret
   exact ⟨by rw [R.out]; rfl, B2.out⟩
  have h0 : ¬ (p.c < 0) := by omega
  go_enter Tryz.func145, Tryz.ntmps145
  go_upto_region 1 with fail
  rw [<- HW2.out]
  go_wp2_with fail
  go_ret
  exact ⟨by rw [R.out]; rfl, B2.out⟩
 obtain ⟨n, hn⟩ : ∃ n : Nat, p.c = (n : Int) := Int.eq_ofNat_of_zero_le (by omega)
 have hnl : n < ws.length := by omega
 obtain ⟨w, hw⟩ := zal ws n hnl
 have hwk := hok.2 w (List.mem_of_getElem? hw)
 have R := hid (zsk hn hw)
 obtain ⟨b, o, rfl, dw⟩ : ∃ b o, a = some ⟨b, o, none⟩ /\ W2.cell? ⟨b, o + n * 7 + 1, none⟩ = some (.int .i64 (w : Int)) := by
  obtain ⟨a', c', h1, h2⟩ := H2.out
  obtain ⟨rfl, rfl⟩ : a = a' /\ c = c' := by simpa using h1
  rcases h2 with h2 | ⟨b, o, h2, h3⟩
  ·rw [h2] at hw; simp at hw
  exact ⟨b, o, h2, h3 n w hw⟩
 have g0 : ¬ ((n : Int) < 0) := by omega
 have g1 : ¬ ((ws.length : Int) <= (n : Int)) := by omega
 have g2 : (n : Int) < (ws.length : Int) := by omega
 rw [hn] at e0
 have HN := hid hn
 clear hn hin hw hok
 rw [HN.out]
 go_enter Tryz.func145, Tryz.ntmps145
 go_upto_region 1 with fail
 rw [<- HN.out, <- HW2.out, HN.out]
 go_wp2_with fail
 go_loopg [5] (4 - w) (fun gh i wr => ∃ k : Nat, w <= k /\ k <= 4 /\ gh = 4 - k /\ i = .int .i64 (k : Int) /\ Hid (((p.vals.take k).drop w).all (· == 0) = true) /\ wr = W2)
 case atStart => exact ⟨w, Nat.le_refl _, hwk.2, rfl, rfl, by show _ = true; rw [List.drop_of_length_le (by simp; omega)]; rfl, rfl⟩
 case round =>
  obtain ⟨k, hwk', hk, rfl, rfl, HA, rfl⟩ := hrel
  by_cases hlt : k < 4
  ·have hki : (k : Int) < 4 := by omega
   obtain ⟨x, hx⟩ := zal p.vals k (by simp [Prt.vals]; omega)
   have d0 := z3o K2.out hx
   have AN := hid (zik hwk' hx)
   have TN : Hid (((p.vals.take (k + 1)).drop w).all (· == 0) = (((p.vals.take k).drop w).all (· == 0) && (x == 0))) := by
    show _ = _
    obtain ⟨hl, rfl⟩ := List.getElem?_eq_some_iff.1 hx
    rw [List.take_succ_eq_append_getElem hl, List.drop_append_of_le_length (by simp; omega), List.all_append]
    simp
   clear hx
   by_cases hx0 : x = 0
   ·have q : (x == 0) = true := by simp [hx0]
    rw [HA.out, q] at TN
    clear hx0
    go_wp2_with fail
    go_roundg (4 - (k + 1))
    case measure => omega
    case rel => exact ⟨k + 1, by omega, by omega, rfl, by go_num, TN.out, rfl⟩
   have q : (x == 0) = false := by simp [hx0]
   rw [q, Bool.false_and, Bool.and_false] at AN
   clear hx0
   go_wp2_with fail
   go_ret
   exact ⟨by rw [R.out, AN.out]; rfl, B2.out⟩
  have hki : ¬ ((k : Int) < 4) := by omega
  have E : Hid ((p.vals.drop w).all (· == 0) = true) := by
   have := HA.out
   rw [List.take_of_length_le (by simp [Prt.vals]; omega)] at this
   exact this
  go_wp2_with fail
  go_ret
  exact ⟨by rw [R.out, E.out]; rfl, B2.out⟩
theorem zkf {S : Nat -> Prop} {a b : World} (h : St S a b) : Ro.St S a b := ⟨h.os, h.tape, h.output, h.size, h.block⟩
structure SD where
 ws : List Nat
 r : Ro.RS
 p : List (List Prt)
 sets : List Nat
def okL (ws : List Nat) (l : List Prt) : Prop := l.Pairwise (fun x y => x.c < y.c) /\ ∀ x ∈ l, 0 <= x.c /\ x.c < (ws.length : Int)
def SD.at (s : SD) (k : Nat) : List Prt := s.p.getD k []
theorem zmo {ws : List Nat} {l : List Prt} (h : okL ws l) (hw : ws.length <= 16) : l.length <= 16 := by
 suffices q : ∀ (l : List Prt) (n : Nat), l.Pairwise (fun x y => x.c < y.c) -> (∀ x ∈ l, (n : Int) <= x.c /\ x.c < 16) -> n <= 16 -> l.length + n <= 16 from by
  have := q l 0 h.1 (fun x hx => ⟨(h.2 x hx).1, by have := (h.2 x hx).2; omega⟩) (by omega)
  omega
 intro l
 induction l with
 | nil => intro n _ _ hn; simpa using hn
 | cons y l ih =>
  intro n hp hb hn
  rw [List.pairwise_cons] at hp
  have hy := hb y List.mem_cons_self
  have := ih (n + 1) hp.2 (fun z hz => ⟨by have := hp.1 z hz; have := hy.1; omega, (hb z (List.mem_cons_of_mem _ hz)).2⟩) (by omega)
  simp only [List.length_cons]
  omega
def six (w : World) (b : Nat) (p : Prt) : World := (((((w.setCell ⟨b, 0, none⟩ (.int .i64 p.c)).setCell ⟨b, 1, none⟩ (.int .i64 p.v0)).setCell ⟨b, 2, none⟩ (.int .i64 p.v1)).setCell ⟨b, 3, none⟩ (.int .i64 p.v2)).setCell ⟨b, 4, none⟩ (.int .i64 p.v3)).setCell ⟨b, 5, none⟩ (.int .i64 p.t)
theorem zjc {w : World} {b : Nat} {q p : Prt} {e : TypeId} (h : w.heap[b]? = some (.cells q.arr e (0, 0))) : (six w b p).heap[b]? = some (.cells p.arr e (0, 0)) /\ ∀ B, B <= b -> Below B w (six w b p) := by
 have h1 := heap_setCell_same w b 0 _ e (.int .i64 p.c) h
 have h2 := heap_setCell_same _ b 1 _ e (.int .i64 p.v0) h1
 have h3 := heap_setCell_same _ b 2 _ e (.int .i64 p.v1) h2
 have h4 := heap_setCell_same _ b 3 _ e (.int .i64 p.v2) h3
 have h5 := heap_setCell_same _ b 4 _ e (.int .i64 p.v3) h4
 have h6 := heap_setCell_same _ b 5 _ e (.int .i64 p.t) h5
 refine ⟨h6, fun B hB => ?_⟩
 have c := fun (w : World) (j : Nat) (v : Value) => St.setCell (S := fun k => k = b) (a := w) (p := ⟨b, j, none⟩) v rfl
 have st : St (fun k => k = b) w (six w b p) := (((((c w 0 _).trans (c _ 1 _) fun _ _ q => q).trans (c _ 2 _) fun _ _ q => q).trans (c _ 3 _) fun _ _ q => q).trans (c _ 4 _) fun _ _ q => q).trans (c _ 5 _) fun _ _ q => q
 exact st.below (fun k hk => hk ▸ hB) (Nat.le_trans hB (Nat.le_of_lt (Array.getElem?_eq_some_iff.1 h).1))
theorem zde (W : World) (a b : Array Value) (e f : TypeId) : Below W.heap.size W ((W.alloc (.cells a e)).alloc (.cells b f)) /\ ((W.alloc (.cells a e)).alloc (.cells b f)).heap[W.heap.size]? = some (.cells a e (0, 0)) /\ ((W.alloc (.cells a e)).alloc (.cells b f)).heap[W.heap.size + 1]? = some (.cells b f (0, 0)) := by
 refine ⟨(bAl W _).alloc (by simp) _, (Below.heap_alloc _ _ _ (by simp)).trans (heap_alloc_new W _), ?_⟩
 have := heap_alloc_new (W.alloc (.cells a e)) (.cells b f)
 rw [World.size_alloc] at this
 exact this
def insr (p : Prt) : List Prt -> List Prt
 | [] => [p]
 | x :: l => if p.c < x.c then p :: x :: l else x :: insr p l
theorem zeh (l : List Prt) (p : Prt) : insP l p = insr p l := by
 have A : ∀ (l acc : List Prt), l.foldl (fun s x => if !s.1 && decide (p.c < x.c) then (true, s.2 ++ [p] ++ [x]) else (s.1, s.2 ++ [x])) (true, acc) = ((true, acc ++ l) : Bool × List Prt) := by
  intro l
  induction l with
  | nil => intro acc; simp
  | cons x l ih =>
   intro acc
   rw [List.foldl_cons]
   show List.foldl _ (true, acc ++ [x]) l = _
   rw [ih]
   simp
 have C : ∀ (l acc : List Prt) (r : Bool × List Prt), l.foldl (fun s x => if !s.1 && decide (p.c < x.c) then (true, s.2 ++ [p] ++ [x]) else (s.1, s.2 ++ [x])) (false, acc) = r -> (if r.1 then r.2 else r.2 ++ [p]) = acc ++ insr p l := by
  intro l
  induction l with
  | nil => intro acc r h; simp at h; subst h; simp [insr]
  | cons x l ih =>
   intro acc r h
   rw [List.foldl_cons] at h
   by_cases hc : p.c < x.c
   ·simp only [hc, Bool.not_false, decide_true, Bool.and_self, if_true, A] at h
    subst h
    simp [insr, hc]
   simp only [hc, decide_false, Bool.and_false, Bool.false_eq_true, if_false] at h
   rw [ih _ r h]
   simp [insr, hc]
 have := C l [] (wst p l) rfl
 simpa [insP] using this
theorem zri {p y : Prt} : ∀ {l : List Prt}, y ∈ insr p l ↔ y = p \/ y ∈ l := by
 intro l
 induction l with
 | nil => simp [insr]
 | cons x l ih =>
  unfold insr
  split
  ·simp
  rw [List.mem_cons, ih, List.mem_cons]
  constructor
  ·rintro (h | h | h)
   ·exact .inr (.inl h)
   ·exact .inl h
   exact .inr (.inr h)
  rintro (h | h | h)
  ·exact .inr (.inl h)
  ·exact .inl h
  exact .inr (.inr h)
theorem zfw {p : Prt} : ∀ {l : List Prt}, l.Pairwise (fun x y => x.c < y.c) -> (∀ x ∈ l, x.c ≠ p.c) -> (insr p l).Pairwise (fun x y => x.c < y.c) := by
 intro l
 induction l with
 | nil => intro _ _; simp [insr]
 | cons x l ih =>
  intro h hn
  have h' := List.pairwise_cons.1 h
  unfold insr
  split
  ·rename_i hc
   refine List.pairwise_cons.2 ⟨fun y hy => ?_, h⟩
   rcases List.mem_cons.1 hy with rfl | hy
   ·exact hc
   have := h'.1 y hy; omega
  rename_i hc
  refine List.pairwise_cons.2 ⟨fun y hy => ?_, ih h'.2 fun z hz => hn z (List.mem_cons_of_mem _ hz)⟩
  rcases zri.1 hy with rfl | hy
  ·have := hn x List.mem_cons_self; omega
  exact h'.1 y hy
theorem zeq {ws : List Nat} {p : Prt} (h : fitP ws p = true) : 0 <= p.c /\ p.c < (ws.length : Int) := by
 by_cases q : p.c < 0 \/ (ws.length : Int) <= p.c
 ·rw [zqb q] at h; simp at h
 omega
theorem okL.ins {ws : List Nat} {l : List Prt} {p : Prt} (h : okL ws l) (hf : fitP ws p = true) (hx : ∀ x ∈ l, x.c ≠ p.c) : okL ws (insP l p) := by
 rw [zeh]
 refine ⟨zfw h.1 hx, fun y hy => ?_⟩
 rcases zri.1 hy with rfl | hy
 ·exact zeq hf
 exact h.2 y hy
def remP (l : List Prt) (comp : Int) : List Prt := l.filter fun x => !(x.c == comp)
theorem okL.rem {ws : List Nat} {l : List Prt} (h : okL ws l) (comp : Int) : okL ws (remP l comp) := ⟨h.1.filter _, fun y hy => h.2 y (List.mem_filter.1 hy).1⟩
end Rs
namespace So
open Go.RowKit Go.Shelf Go.Maps
open Co (Pt)
open At (lst zbc)
open Rs (Prt okL mskP)
theorem z8q {α : Type} (key : α -> Nat) : ∀ {l m : List α}, l.Pairwise (fun x y => key x < key y) -> m.Pairwise (fun x y => key x < key y) -> (∀ x, x ∈ l ↔ x ∈ m) -> l = m := by
 intro l
 induction l with
 | nil =>
  intro m _ _ h
  cases m with
  | nil => rfl
  | cons b t => exact absurd ((h b).2 (by simp)) (by simp)
 | cons a l ih =>
  intro m hl hm h
  cases m with
  | nil => exact absurd ((h a).1 (by simp)) (by simp)
  | cons b t =>
   rw [List.pairwise_cons] at hl hm
   have e : a = b := by
    rcases List.mem_cons.1 ((h a).1 (by simp)) with q | q
    ·exact q
    rcases List.mem_cons.1 ((h b).2 (by simp)) with q' | q'
    ·exact q'.symm
    have := hm.1 a q
    have := hl.1 b q'
    omega
   subst e
   rw [ih hl.2 hm.2 fun x => ?_]
   constructor
   ·intro hx
    rcases List.mem_cons.1 ((h x).1 (by simp [hx])) with q | q
    ·subst q; have := hl.1 x hx; omega
    exact q
   intro hx
   rcases List.mem_cons.1 ((h x).2 (by simp [hx])) with q | q
   ·subst q; have := hm.1 x hx; omega
   exact q
theorem zhh (m : Nat) : ∀ k, (lst k m).Pairwise (· < ·)
 | 0 => by simp [lst]
 | k + 1 => by
  have ih := zhh m k
  unfold lst
  split
  ·rw [List.pairwise_append]
   refine ⟨ih, by simp, fun a ha b hb => ?_⟩
   have := ((zbc m a k).1 ha).1
   simp at hb
   omega
  exact ih
def pt (p : Prt) : Pt := ⟨p.v0, p.v1, p.v2, p.v3, p.t⟩
def mk (c : Nat) (q : Pt) : Prt := ⟨(c : Int), q.a, q.b, q.c, q.d, q.t⟩
theorem z5d (c : Nat) (q : Pt) : (mk c q).val = q.val (c : Int) := rfl
theorem yaj {p : Prt} {c : Nat} (h : p.c = (c : Int)) : mk c (pt p) = p := by
 cases p; simp at h; subst h; rfl
def ptAt (l : List Prt) (c : Nat) : Pt := match l.find? (fun x => x.c == (c : Int)) with
 | some p => pt p
 | none => Pt.zero
def Apart (l : List Prt) : Prop := l.Pairwise (fun x y => x.c ≠ y.c)
theorem zdz {ws : List Nat} {l : List Prt} (h : okL ws l) : Apart l := h.1.imp fun q e => by omega
theorem zue {l : List Prt} (h : Apart l) {p : Prt} (hp : p ∈ l) : l.find? (fun x => x.c == p.c) = some p := by
 induction l with
 | nil => simp at hp
 | cons a l ih =>
  rw [Apart, List.pairwise_cons] at h
  rcases List.mem_cons.1 hp with rfl | hp'
  ·simp
  have := h.1 p hp'
  rw [List.find?_cons_of_neg (by simpa using this)]
  exact ih h.2 hp'
theorem zfh {l : List Prt} (h : Apart l) {p : Prt} (hp : p ∈ l) {c : Nat} (hc : p.c = (c : Int)) : ptAt l c = pt p := by
 unfold ptAt
 rw [<- hc, zue h hp]
theorem zfi {l l' : List Prt} (h : Apart l) (hp : l.Perm l') : Apart l' := (hp.pairwise_iff (fun q => Ne.symm q)).1 h
theorem zok {l : List Prt} {c : Int} (h : ∀ x ∈ l, x.c ≠ c) : l.find? (fun x => x.c == c) = none := by
 rw [List.find?_eq_none]
 intro x hx
 simpa using h x hx
theorem zys {l l' : List Prt} (h : Apart l) (hp : l.Perm l') (c : Nat) : ptAt l c = ptAt l' c := by
 by_cases e : ∃ x ∈ l, x.c = (c : Int)
 ·obtain ⟨x, hx, hc⟩ := e
  rw [zfh h hx hc, zfh (zfi h hp) (hp.mem_iff.1 hx) hc]
 unfold ptAt
 rw [zok fun x hx q => e ⟨x, hx, q⟩, zok fun x hx q => e ⟨x, hp.mem_iff.2 hx, q⟩]
def Pos (l : List Prt) : Prop := ∀ x ∈ l, 0 <= x.c
theorem z1v (c : Nat) : ∀ (l : List Prt) (m : Nat), (l.foldl (fun m x => m ||| 2 ^ x.c.toNat) m).testBit c = (m.testBit c || l.any fun x => x.c.toNat == c) := by
 intro l
 induction l with
 | nil => intro m; simp
 | cons a l ih =>
  intro m
  rw [List.foldl_cons, ih, Nat.testBit_or, Nat.testBit_two_pow, List.any_cons, Bool.or_assoc]
  congr 2
theorem zqa (l : List Prt) (c : Nat) : (mskP l).testBit c = l.any fun x => x.c.toNat == c := by
 unfold mskP
 rw [z1v]
 simp
theorem zcx {l : List Prt} (h : Pos l) (c : Nat) : (mskP l).testBit c = true ↔ ∃ x ∈ l, x.c = (c : Int) := by
 rw [zqa, List.any_eq_true]
 constructor
 ·rintro ⟨x, hx, e⟩
  have := h x hx
  exact ⟨x, hx, by simp at e; omega⟩
 rintro ⟨x, hx, e⟩
 exact ⟨x, hx, by simp; omega⟩
theorem z6v {a b : Nat} (h : ∀ i, a.testBit i = b.testBit i) : a = b := Nat.eq_of_testBit_eq h
theorem z2d {l l' : List Prt} (hp : l.Perm l') : mskP l = mskP l' := by
 apply z6v
 intro i
 rw [zqa, zqa, Bool.eq_iff_iff, List.any_eq_true, List.any_eq_true]
 constructor
 ·rintro ⟨x, hx, e⟩; exact ⟨x, hp.mem_iff.1 hx, e⟩
 rintro ⟨x, hx, e⟩; exact ⟨x, hp.mem_iff.2 hx, e⟩
theorem zex {ws : List Nat} {l : List Prt} (h : okL ws l) : Pos l := fun x hx => (h.2 x hx).1
theorem z9q {ws : List Nat} {l : List Prt} (h : ∀ x ∈ l, 0 <= x.c /\ x.c < (ws.length : Int)) : mskP l < 2 ^ ws.length := by
 apply At.zku
 intro i hi
 rw [Bool.eq_false_iff]
 intro q
 obtain ⟨x, hx, e⟩ := (zcx (fun x hx => (h x hx).1) i).1 q
 have := (h x hx).2
 omega
theorem zvj {ws : List Nat} {l : List Prt} (h : okL ws l) (hw : ws.length <= 16) : (lst 32 (mskP l)).map (fun c => mk c (ptAt l c)) = l := by
 refine z8q (fun x => x.c.toNat) ?_ ?_ ?_
 ·rw [List.pairwise_map]
  exact (zhh _ 32).imp fun q => by simpa [mk] using q
 ·refine List.Pairwise.imp_of_mem ?_ h.1
  intro a b ha hb q
  have := (h.2 a ha).1
  omega
 intro x
 rw [List.mem_map]
 constructor
 ·rintro ⟨c, hc, rfl⟩
  obtain ⟨y, hy, e⟩ := (zcx (zex h) c).1 ((zbc _ _ _).1 hc).2
  rw [zfh (zdz h) hy e, yaj e]
  exact hy
 intro hx
 have h1 := h.2 x hx
 refine ⟨x.c.toNat, (zbc _ _ _).2 ⟨by omega, (zcx (zex h) _).2 ⟨x, hx, by omega⟩⟩, ?_⟩
 rw [zfh (zdz h) hx (by omega), yaj (by omega)]
end So
namespace So
open Go.RowKit Go.Shelf Go.Maps
open Co (I64)
open At (an add)
open Ro (RS)
open Rs (Prt SD okL fitP mskP)
def al (s : SD) (i g : Nat) : Prop := s.r.zbo (i : Int) (g : Int) = true
theorem zgv (s : SD) (i g : Nat) : al s i g ↔ i ∉ s.r.free /\ s.r.gens[i]? = some g := by
 unfold al
 rw [RS.zbf]
 simp
theorem zso {s : SD} {i g g' : Nat} (h : al s i g) (h' : al s i g') : g = g' := by
 rw [zgv] at h h'
 have := h.2.symm.trans h'.2
 simpa using this
theorem ziv {s : SD} {i g : Nat} (h : al s i g) : i < s.r.gens.length := by
 rw [zgv] at h
 exact (List.getElem?_eq_some_iff.1 h.2).1
def okE (ws : List Nat) (l : List Prt) : Prop := okL ws l /\ ∀ p ∈ l, fitP ws p = true /\ I64 p.t
structure Lk (ex : Option Nat) (tab : Nat -> Option (List (Nat × Nat))) (seat : List (Nat × Nat)) (s : SD) : Prop where
 len : seat.length = s.r.gens.length
 here : ∀ i g, al s i g -> ex ≠ some i -> ∃ n j own, seat[i]? = some (n, j) /\ tab n = some own /\ own[j]? = some (i, g) /\ s.sets[n]? = some (mskP (s.at i))
 back : ∀ n own, tab n = some own -> own ≠ [] /\ ∀ j i g, own[j]? = some (i, g) -> al s i g /\ ex ≠ some i /\ seat[i]? = some (n, j) /\ s.sets[n]? = some (mskP (s.at i))
 ok : ∀ i g, al s i g -> ex ≠ some i -> okE s.ws (s.at i)
def tput (tab : Nat -> Option (List (Nat × Nat))) (n : Nat) (x : Option (List (Nat × Nat))) : Nat -> Option (List (Nat × Nat)) := fun m => if m = n then x else tab m
theorem zcm (tab : Nat -> Option (List (Nat × Nat))) (n : Nat) (x : Option (List (Nat × Nat))) : tput tab n x n = x := by simp [tput]
theorem zeu (tab : Nat -> Option (List (Nat × Nat))) {n m : Nat} (h : m ≠ n) (x : Option (List (Nat × Nat))) : tput tab n x m = tab m := by simp [tput, h]
section
variable {ex : Option Nat} {tab : Nat -> Option (List (Nat × Nat))} {seat : List (Nat × Nat)} {s : SD}
theorem Lk.one (h : Lk ex tab seat s) {n n' : Nat} {own own' : List (Nat × Nat)} (h1 : tab n = some own) (h2 : tab n' = some own') {j j' i g g' : Nat} (e1 : own[j]? = some (i, g)) (e2 : own'[j']? = some (i, g')) : n = n' /\ j = j' := by
 have a := ((h.back n own h1).2 j i g e1).2.2.1
 have b := ((h.back n' own' h2).2 j' i g' e2).2.2.1
 rw [a] at b
 simpa using b
def taken (own : List (Nat × Nat)) (j : Nat) (x : Nat × Nat) : List (Nat × Nat) := (own.set j x).dropLast
theorem zga (own : List (Nat × Nat)) (j : Nat) (x : Nat × Nat) : (taken own j x).length = own.length - 1 := by simp [taken]
theorem z1q {own : List (Nat × Nat)} {j : Nat} {x : Nat × Nat} {k : Nat} {y : Nat × Nat} (h : (taken own j x)[k]? = some y) : k < own.length - 1 /\ ((k = j /\ y = x /\ j < own.length - 1) \/ (k ≠ j /\ own[k]? = some y)) := by
 unfold taken at h
 have hk := (List.getElem?_eq_some_iff.1 h).1
 simp at hk
 rw [List.getElem?_dropLast, if_pos (by simpa using hk), List.getElem?_set] at h
 refine ⟨hk, ?_⟩
 by_cases e : j = k
 ·subst e
  rw [if_pos rfl, if_pos (by omega)] at h
  exact .inl ⟨rfl, (by simpa using h.symm), hk⟩
 rw [if_neg e] at h
 exact .inr ⟨fun q => e q.symm, h⟩
theorem zle {own : List (Nat × Nat)} {j : Nat} {x : Nat × Nat} {k : Nat} (hk : k < own.length - 1) : (taken own j x)[k]? = if j = k then some x else own[k]? := by
 unfold taken
 rw [List.getElem?_dropLast, if_pos (by simpa using hk), List.getElem?_set]
 by_cases e : j = k
 ·rw [if_pos e, if_pos e, if_pos (by omega)]
 rw [if_neg e, if_neg e]
def seated (own : List (Nat × Nat)) (n j : Nat) (x : Nat × Nat) (seat : List (Nat × Nat)) : List (Nat × Nat) := if j < own.length - 1 then seat.set x.1 (n, j) else seat
def left (own : List (Nat × Nat)) (j : Nat) (x : Nat × Nat) : Option (List (Nat × Nat)) := if own.length - 1 = 0 then none else some (taken own j x)
theorem Lk.leave (h : Lk none tab seat s) {i g n j : Nat} {own : List (Nat × Nat)} {x : Nat × Nat} (hs : seat[i]? = some (n, j)) (ht : tab n = some own) (ho : own[j]? = some (i, g)) (hx : own[own.length - 1]? = some x) :
  Lk (some i) (tput tab n (left own j x)) (seated own n j x seat) s := by
 have hj := (List.getElem?_eq_some_iff.1 ho).1
 obtain ⟨ax, -, sx, -⟩ := (h.back n own ht).2 _ x.1 x.2 hx
 obtain ⟨ai, -, si, -⟩ := (h.back n own ht).2 _ i g ho
 have hxi : x.1 = i ↔ own.length - 1 = j := by
  constructor
  ·intro e
   exact (h.one ht ht (i := i) (g := x.2) (by rw [hx, <- e]) ho).2
  intro e
  rw [e, ho] at hx
  simp at hx
  rw [<- hx]
 have sat : ∀ k, (seated own n j x seat)[k]? = if j < own.length - 1 /\ k = x.1 then some (n, j) else seat[k]? := by
  intro k
  unfold seated
  by_cases c : j < own.length - 1
  ·rw [if_pos c, List.getElem?_set]
   by_cases e : x.1 = k
   ·rw [if_pos e, if_pos (List.getElem?_eq_some_iff.1 sx).1, if_pos ⟨c, e.symm⟩]
   rw [if_neg e, if_neg fun q => e q.2.symm]
  rw [if_neg c, if_neg fun q => c q.1]
 refine ⟨?_, ?_, ?_, fun k q hk _ => h.ok k q hk (by simp)⟩
 ·rw [<- h.len]; unfold seated; split <;> simp
 ·intro k q hk hne
  obtain ⟨n', j', own', e1, e2, e3, e4⟩ := h.here k q hk (by simp)
  have hki : k ≠ i := fun e => hne (by rw [e])
  by_cases en : n' = n
  ·subst en
   obtain rfl : own = own' := by rw [ht] at e2; simpa using e2
   have hj' := (List.getElem?_eq_some_iff.1 e3).1
   have hjj : j' ≠ j := fun e => hki (by rw [e, ho] at e3; simp at e3; exact e3.1.symm)
   have h1 : own.length - 1 ≠ 0 := by omega
   by_cases el : j' = own.length - 1
   ·obtain rfl : x = (k, q) := by rw [<- el, e3] at hx; simpa using hx.symm
    refine ⟨n', j, taken own j (k, q), ?_, by rw [zcm, left, if_neg h1], ?_, e4⟩
    ·rw [sat, if_pos ⟨by omega, rfl⟩]
    rw [zle (by omega), if_pos rfl]
   have hkx : k ≠ x.1 := fun e => el (h.one ht ht e3 (i := k) (g' := x.2) (by rw [hx, e])).2
   refine ⟨n', j', taken own j x, ?_, by rw [zcm, left, if_neg h1], ?_, e4⟩
   ·rw [sat, if_neg fun q => hkx q.2]; exact e1
   rw [zle (by omega), if_neg fun e => hjj e.symm]; exact e3
  refine ⟨n', j', own', ?_, by rw [zeu _ en]; exact e2, e3, e4⟩
  have hkx : k ≠ x.1 := fun e => en (h.one e2 ht e3 (i := k) (g' := x.2) (by rw [hx, e])).1
  rw [sat, if_neg fun q => hkx q.2]; exact e1
 intro n' own' e2
 by_cases en : n' = n
 ·subst en
  rw [zcm, left] at e2
  split at e2
  ·cases e2
  rename_i h1
  simp at e2
  subst e2
  refine ⟨fun e => h1 (by rw [<- zga own j x, e]; rfl), ?_⟩
  intro k i' g' hk
  obtain ⟨hk1, hk2⟩ := z1q hk
  rcases hk2 with ⟨rfl, rfl, hjl⟩ | ⟨hkj, hk2⟩
  ·have b := (h.back n' own ht).2 _ i' g' hx
   refine ⟨b.1, fun e => ?_, ?_, b.2.2.2⟩
   ·have := hxi.1 (by simpa using e.symm); omega
   rw [sat, if_pos ⟨hjl, rfl⟩]
  have b := (h.back n' own ht).2 _ i' g' hk2
  refine ⟨b.1, fun e => ?_, ?_, b.2.2.2⟩
  ·simp at e; subst e; exact hkj (h.one ht ht hk2 ho).2
  rw [sat, if_neg fun q => ?_]; exact b.2.2.1
  have := (h.one ht ht hk2 (i := i') (g' := x.2) (by rw [hx, q.2])).2
  omega
 rw [zeu _ en] at e2
 refine ⟨(h.back n' own' e2).1, ?_⟩
 intro k i' g' hk
 have b := (h.back n' own' e2).2 _ i' g' hk
 refine ⟨b.1, fun e => ?_, ?_, b.2.2.2⟩
 ·simp at e; subst e; exact en (h.one e2 ht hk ho).1
 rw [sat, if_neg fun q => ?_]; exact b.2.2.1
 exact en (h.one e2 ht hk (i := i') (g' := x.2) (by rw [hx, q.2])).1
def entered (s : SD) (i : Nat) (l : List Prt) : SD := { s with p := s.p.set i l, sets := add s.sets (mskP l) }
theorem zcq {s : SD} {i : Nat} (l : List Prt) (hi : i < s.p.length) : (entered s i l).at i = l := by
 unfold entered SD.at
 rw [List.getD_eq_getElem?_getD, List.getElem?_set_self hi]
 rfl
theorem zfk {s : SD} {i k : Nat} (l : List Prt) (h : k ≠ i) : (entered s i l).at k = s.at k := by
 unfold entered SD.at
 rw [List.getD_eq_getElem?_getD, List.getD_eq_getElem?_getD, List.getElem?_set_ne (fun e => h e.symm)]
theorem Lk.enter {i g : Nat} (h : Lk (some i) tab seat s) (ha : al s i g) (hp : s.r.gens.length <= s.p.length) {l : List Prt} (hl : okE s.ws l) {own : List (Nat × Nat)} (ho : tab (s.sets.idxOf (mskP l)) = some own \/ (tab (s.sets.idxOf (mskP l)) = none /\ own = [])) :
  Lk none (tput tab (s.sets.idxOf (mskP l)) (some (own ++ [(i, g)]))) (seat.set i (s.sets.idxOf (mskP l), own.length)) (entered s i l) := by
 have hi := ziv ha
 have his : i < seat.length := by rw [h.len]; exact hi
 have hip : i < s.p.length := by omega
 have hset : (add s.sets (mskP l))[s.sets.idxOf (mskP l)]? = some (mskP l) := At.zzv _ _
 have hold : ∀ n m, s.sets[n]? = some m -> (add s.sets (mskP l))[n]? = some m := fun n m q => (At.z0a _ (List.getElem?_eq_some_iff.1 q).1).trans q
 have ala : ∀ k q, al (entered s i l) k q ↔ al s k q := fun k q => Iff.rfl
 have hown : ∀ (j : Nat) i' g', own[j]? = some (i', g') -> al s i' g' /\ some i ≠ some i' /\ seat[i']? = some (s.sets.idxOf (mskP l), j) /\ s.sets[s.sets.idxOf (mskP l)]? = some (mskP (s.at i')) := by
  intro j i' g' e
  rcases ho with ho | ⟨_, rfl⟩
  ·exact (h.back _ own ho).2 j i' g' e
  simp at e
 refine ⟨?_, ?_, ?_, ?_⟩
 ·simpa [entered] using h.len
 ·intro k q hk _
  rw [ala] at hk
  by_cases e : k = i
  ·subst e
   obtain rfl := zso ha hk
   refine ⟨_, _, _, List.getElem?_set_self his, zcm _ _ _, by simp, ?_⟩
   rw [zcq l hip]
   exact hset
  obtain ⟨n, j, own', e1, e2, e3, e4⟩ := h.here k q hk (fun q => e (by simpa using q.symm))
  rw [zfk l e]
  by_cases en : n = s.sets.idxOf (mskP l)
  ·rw [en] at e2 e1
   have eo : own = own' := by
    rcases ho with ho | ⟨ho, _⟩
    ·rw [ho] at e2; simpa using e2
    rw [ho] at e2; cases e2
   subst eo
   refine ⟨_, j, _, ?_, zcm _ _ _, ?_, hold _ _ (en ▸ e4)⟩
   ·rw [List.getElem?_set_ne fun q => e q.symm]; exact e1
   rw [List.getElem?_append_left (List.getElem?_eq_some_iff.1 e3).1]; exact e3
  refine ⟨n, j, own', ?_, by rw [zeu _ en]; exact e2, e3, hold _ _ e4⟩
  rw [List.getElem?_set_ne fun q => e q.symm]; exact e1
 ·intro n own' e2
  by_cases en : n = s.sets.idxOf (mskP l)
  ·subst en
   rw [zcm] at e2
   simp at e2
   subst e2
   refine ⟨by simp, ?_⟩
   intro j i' g' e
   rw [List.getElem?_append] at e
   split at e
   ·obtain ⟨b1, b2, b3, b4⟩ := hown j i' g' e
    have hne : i' ≠ i := fun q => b2 (by rw [q])
    exact ⟨b1, by simp, by rw [List.getElem?_set_ne fun q => hne q.symm]; exact b3, by rw [zfk l hne]; exact hold _ _ b4⟩
   rename_i hj
   have hj' : j - own.length = 0 := by
    have := (List.getElem?_eq_some_iff.1 e).1
    simp at this
    omega
   rw [hj'] at e
   simp at e
   obtain ⟨rfl, rfl⟩ := e
   refine ⟨ha, by simp, ?_, ?_⟩
   ·rw [List.getElem?_set_self his]
    congr 2
    omega
   rw [zcq l hip]; exact hset
  rw [zeu _ en] at e2
  refine ⟨(h.back n own' e2).1, ?_⟩
  intro j i' g' e
  obtain ⟨b1, b2, b3, b4⟩ := (h.back n own' e2).2 j i' g' e
  have hne : i' ≠ i := fun q => b2 (by rw [q])
  exact ⟨b1, by simp, by rw [List.getElem?_set_ne fun q => hne q.symm]; exact b3, by rw [zfk l hne]; exact hold _ _ b4⟩
 intro k q hk _
 rw [ala] at hk
 by_cases e : k = i
 ·subst e
  rw [zcq l hip]
  exact hl
 rw [zfk l e]
 exact h.ok k q hk (fun q => e (by simpa using q.symm))
theorem zfv {f : List Nat} {i : Nat} (hok : s.r.ok) (hf : s.r.free = f ++ [i]) (k g : Nat) : al { s with r := s.r.took i } k g ↔ (k = i /\ g = s.r.gens.getD i 0 + 1) \/ al s k g := by
 unfold al
 show (s.r.took i).zbo _ _ = true ↔ _
 rw [RS.zkv hok hf]
 split
 ·rename_i hc
  simp only [true_iff]
  exact .inl ⟨by omega, by have := hc.2; omega⟩
 rename_i hc
 constructor
 ·exact .inr
 rintro (⟨rfl, rfl⟩ | q)
 ·exact absurd ⟨rfl, rfl⟩ hc
 exact q
theorem Lk.take (h : Lk none tab seat s) {f : List Nat} {i : Nat} (hok : s.r.ok) (hf : s.r.free = f ++ [i]) : Lk (some i) tab seat { s with r := s.r.took i } := by
 have hdead : ∀ g, ¬ al s i g := fun g q => by
  rw [zgv, hf] at q
  simp at q
 refine ⟨?_, ?_, ?_, ?_⟩
 ·simpa [RS.took] using h.len
 ·intro k g hk hne
  rcases (zfv hok hf k g).1 hk with ⟨rfl, -⟩ | hk
  ·exact absurd rfl hne
  exact h.here k g hk (by simp)
 ·intro n own e
  refine ⟨(h.back n own e).1, fun j k g ek => ?_⟩
  obtain ⟨b1, b2, b3⟩ := (h.back n own e).2 j k g ek
  exact ⟨(zfv hok hf k g).2 (.inr b1), fun q => hdead g (by simp at q; rw [q]; exact b1), b3⟩
 intro k g hk hne
 rcases (zfv hok hf k g).1 hk with ⟨rfl, -⟩ | hk
 ·exact absurd rfl hne
 exact h.ok k g hk (by simp)
theorem zgl {i g : Nat} (ha : al s i g) (k q : Nat) : al { s with r := s.r.freed i } k q ↔ al s k q /\ k ≠ i := by
 unfold al
 show (s.r.freed i).zbo _ _ = true ↔ _
 have := RS.zjt (r := s.r) ha (k : Int) (q : Int)
 rw [Int.toNat_natCast] at this
 rw [this]
 split
 ·rename_i hc
  simp only [Bool.false_eq_true, false_iff]
  rintro ⟨-, hne⟩
  exact hne (by omega)
 rename_i hc
 constructor
 ·intro hk
  refine ⟨hk, fun e => hc ⟨by omega, ?_⟩⟩
  subst e
  have := zso ha hk
  omega
 exact fun hk => hk.1
theorem Lk.free {i g : Nat} (h : Lk (some i) tab seat s) (ha : al s i g) : Lk none tab seat { s with r := s.r.freed i } := by
 refine ⟨h.len, ?_, ?_, ?_⟩
 ·intro k q hk _
  obtain ⟨h1, h2⟩ := (zgl ha k q).1 hk
  exact h.here k q h1 fun e => h2 (by simpa using e.symm)
 ·intro n own e
  refine ⟨(h.back n own e).1, fun j k q ek => ?_⟩
  obtain ⟨b1, b2, b3⟩ := (h.back n own e).2 j k q ek
  exact ⟨(zgl ha k q).2 ⟨b1, fun e => b2 (by rw [e])⟩, by simp, b3⟩
 intro k q hk _
 obtain ⟨h1, h2⟩ := (zgl ha k q).1 hk
 exact h.ok k q h1 fun e => h2 (by simpa using e.symm)
end
end So
namespace So
open Go.RowKit Go.Shelf Go.Maps
open Co (I64 Pt Col CS)
open At (St zaa Atl Ints)
open Ro (RS Rol Ents zae)
open Rs (SD okW zkf)
theorem znm {S : Nat -> Prop} {a b : World} (h : St S a b) : Co.St S a b := ⟨h.os, h.tape, h.output, h.size, h.block⟩
theorem zqd {S : Nat -> Prop} {a b : World} (h : Co.St S a b) : St S a b := ⟨h.os, h.tape, h.output, h.size, h.block⟩
theorem zxl (w : World) : (zeroValue 221).run Tryz.prog w = .ok (.pointer none) w := by kernel_rfl
theorem zxs (w : World) : (zeroValue 225).run Tryz.prog w = .ok (.pointer none) w := by kernel_rfl
theorem zai {B : Nat} {W W' : World} {ty : TypeId} {sz : Nat} {v : Value} {n : Nat} {l : List Value} {T : Nat -> Prop} (h : W.ownsRow B ty sz v n l) (hs : St T W W') (hn : ∀ k, v.ownBlock = some k -> ¬ T k) : W'.ownsRow B ty sz v n l :=
 ⟨h.1, h.2.elim .inl fun ⟨g, cap, cur, h1, h2, h3, h4⟩ => .inr ⟨g, cap, cur, h1, h2, hs.at h3 (hn g (by rw [h1]; rfl)), h4⟩⟩
theorem zbd {B : Nat} {W : World} {ty : TypeId} {sz : Nat} {v : Value} {n : Nat} {l : List Value} (h : W.ownsRow B ty sz v n l) {k : Nat} (hk : v.ownBlock = some k) : ∃ c, W.heap[k]? = some (.cells c ty (0, 0)) := by
 rcases h.2 with ⟨h1, -⟩ | ⟨g, cap, cur, h1, h2, h3, h4⟩
 ·rw [h1] at hk; simp [Value.ownBlock] at hk
 rw [h1] at hk
 obtain rfl : g = k := by simpa [Value.ownBlock] using hk
 exact ⟨_, h3⟩
structure Rec (C : Nat × Nat × Nat -> Prop) (f f' : Nat -> Nat × Nat × Nat) (N N' : Nat) : Prop where
 out : ∀ l, l ≠ (0, 0, 0) -> ¬ C l -> ∀ k, f' k = l ↔ f k = l
 new : ∀ k, C (f' k) -> C (f k) \/ N <= k
 lt : ∀ k, f' k ≠ (0, 0, 0) -> k < N'
theorem Rec.refl (C : Nat × Nat × Nat -> Prop) (f : Nat -> Nat × Nat × Nat) {N N' : Nat} (h : ∀ k, f k ≠ (0, 0, 0) -> k < N) (hN : N <= N') : Rec C f f N N' :=
 ⟨fun _ _ _ _ => Iff.rfl, fun _ q => .inl q, fun k q => Nat.lt_of_lt_of_le (h k q) hN⟩
theorem Rec.trans {C : Nat × Nat × Nat -> Prop} {f f1 f2 : Nat -> Nat × Nat × Nat} {N N1 N2 : Nat} (h : Rec C f f1 N N1) (k : Rec C f1 f2 N1 N2) (hN : N <= N1) : Rec C f f2 N N2 :=
 ⟨fun l h0 hc x => (k.out l h0 hc x).trans (h.out l h0 hc x), fun x hx => (k.new x hx).elim (h.new x) fun q => .inr (Nat.le_trans hN q), k.lt⟩
theorem Rec.mono {C C' : Nat × Nat × Nat -> Prop} {f f' : Nat -> Nat × Nat × Nat} {N N' : Nat} (h : Rec C f f' N N') (hC : ∀ l, C l -> C' l) (h0 : ¬ C' (0, 0, 0)) : Rec C' f f' N N' := by
 refine ⟨fun l hl hc => h.out l hl fun q => hc (hC l q), fun k hk => ?_, h.lt⟩
 by_cases q : C (f' k)
 ·exact (h.new k q).imp (hC _) id
 have e := (h.out (f' k) (fun e => h0 (e ▸ hk)) q k).1 rfl
 exact .inl (by rw [e]; exact hk)
theorem zvg (f : Nat -> Nat × Nat × Nat) {l : Nat × Nat × Nat} (hl : l ≠ (0, 0, 0)) {S : Nat -> Prop} {N N' : Nat} (hS : ∀ k, S k -> f k = l \/ N <= k) (hlt : ∀ k, f k ≠ (0, 0, 0) -> k < N) (hS' : ∀ k, S k -> k < N') (hN : N <= N') :
  ∃ f', (∀ k, f' k = l ↔ S k) /\ Rec (fun x => x = l) f f' N N' := by
 classical
 refine ⟨fun k => if S k then l else if f k = l then (0, 0, 0) else f k, fun k => ?_, ⟨fun l' h0 hc k => ?_, fun k hk => ?_, fun k hk => ?_⟩⟩
 ·by_cases h : S k
  ·simp [h]
  by_cases e : f k = l
  ·simp only [h, e, if_true, if_false]
   exact ⟨fun q => absurd q.symm hl, fun q => q.elim⟩
  simp [h, e]
 ·by_cases h : S k
  ·simp only [h, if_true]
   refine ⟨fun e => absurd e.symm hc, fun e => ?_⟩
   rcases hS k h with q | q
   ·rw [q] at e; exact absurd e.symm hc
   have := hlt k (by rw [e]; exact h0)
   omega
  by_cases e : f k = l
  ·simp only [h, e, if_true, if_false]
   exact ⟨fun q => absurd q.symm h0, fun q => absurd q.symm hc⟩
  simp [h, e]
 ·by_cases h : S k
  ·exact hS k h
  by_cases e : f k = l
  ·exact .inl e
  simp only [h, e, if_false] at hk
 by_cases h : S k
 ·exact hS' k h
 by_cases e : f k = l
 ·simp [h, e] at hk
 simp only [h, e, if_false] at hk
 exact Nat.lt_of_lt_of_le (hlt k hk) hN
theorem zeb {B : Nat} {W : World} {rb : Nat} {s : CS} {S S' : Nat -> Prop} (h : Col B W rb s S) (he : ∀ k, S' k ↔ S k) : Col B W rb s S' := by
 obtain ⟨mb, sv, h1, h2⟩ := h
 exact ⟨mb, sv, h1, fun k => (he k).trans (h2 k)⟩
theorem zdq {B : Nat} {W : World} {rb : Nat} {s : At.AS} {S S' : Nat -> Prop} (h : Atl B W rb s S) (he : ∀ k, S' k ↔ S k) : Atl B W rb s S' := by
 obtain ⟨mb, sv, h1, h2⟩ := h
 exact ⟨mb, sv, h1, fun k => (he k).trans (h2 k)⟩
theorem zdw {B : Nat} {W : World} {rb t : Nat} {r : RS} {S S' : Nat -> Prop} (h : Rol B W rb t r S) (he : ∀ k, S' k ↔ S k) : Rol B W rb t r S' := by
 obtain ⟨gb, mb, fv, h1, h2⟩ := h
 exact ⟨gb, mb, fv, h1, fun k => (he k).trans (h2 k)⟩
structure TV where
 tb : Nat
 ov : Value
 cm : Nat
 cb : Nat -> Nat
def cls (n : Nat) (l : Nat × Nat × Nat) : Prop := l = (4, n, 0) \/ ∃ c, l = (5, n, c)
theorem zdk (n : Nat) : ¬ cls n (0, 0, 0) := by
 rintro (h | ⟨c, h⟩) <;> simp at h
theorem zgy {n m : Nat} {l : Nat × Nat × Nat} (h : cls n l) (h' : cls m l) : n = m := by
 rcases h with rfl | ⟨c, rfl⟩ <;> rcases h' with h' | ⟨c', h'⟩ <;> simp at h' <;> omega
def zcv (m : Nat) (cb : Nat -> Nat) : Nat -> Option Nat := fun c => if m.testBit c = true then some (cb c) else none
structure Tb (B : Nat) (W : World) (f : Nat -> Nat × Nat × Nat) (n : Nat) (x : TV) (m : Nat) (ws : List Nat) (own : List (Nat × Nat)) (rows : Nat -> List Pt) : Prop where
 box : W.heap[x.tb]? = some (.cells #[.int .u32 (m : Int), x.ov, .map (some x.cm)] 271 (0, 0))
 own : Ents B W x.ov own
 map : PMap W x.cm (zcv m x.cb)
 col : ∀ c, m.testBit c = true -> ∃ w, ws[c]? = some w /\ Col B W (x.cb c) ⟨(c : Int), w, rows c⟩ (fun k => f k = (5, n, c))
 fp : ∀ k, f k = (4, n, 0) ↔ k = x.tb \/ k = x.cm \/ x.ov.ownBlock = some k
 low : B <= x.tb /\ B <= x.cm
section
variable {B : Nat} {W W' : World} {f f' : Nat -> Nat × Nat × Nat} {n : Nat} {x : TV} {m : Nat} {ws : List Nat} {own : List (Nat × Nat)} {rows : Nat -> List Pt}
theorem Tb.ftb (h : Tb B W f n x m ws own rows) : f x.tb = (4, n, 0) := (h.fp _).2 (.inl rfl)
theorem Tb.fcm (h : Tb B W f n x m ws own rows) : f x.cm = (4, n, 0) := (h.fp _).2 (.inr (.inl rfl))
theorem Tb.fov (h : Tb B W f n x m ws own rows) {k : Nat} (hk : x.ov.ownBlock = some k) : f k = (4, n, 0) := (h.fp _).2 (.inr (.inr hk))
theorem Tb.move {T : Nat -> Prop} (h : Tb B W f n x m ws own rows) (hs : St T W W') (hd : ∀ k, cls n (f k) -> ¬ T k) (hf : ∀ l, cls n l -> ∀ k, f' k = l ↔ f k = l) : Tb B W' f' n x m ws own rows where
 box := hs.at h.box (hd _ (.inl h.ftb))
 own := zai h.own hs fun k hk => hd k (.inl (h.fov hk))
 map := h.map.kept hs (hd _ (.inl h.fcm))
 col := fun c hc => by
  obtain ⟨w, h1, h2⟩ := h.col c hc
  exact ⟨w, h1, zeb (h2.kept (znm hs) fun k hk => hd k (.inr ⟨c, hk⟩)) fun k => hf _ (.inr ⟨c, rfl⟩) k⟩
 fp := fun k => (hf _ (.inl rfl) k).trans (h.fp k)
 low := h.low
theorem Tb.later (h : Tb B W f n x m ws own rows) (hb : Below W.heap.size W W') : Tb B W' f n x m ws own rows :=
 h.move (T := fun _ => False) (St.of_below hb) (fun _ _ q => q) fun _ _ _ => Iff.rfl
theorem Tb.c0 (h : Tb B W f n x m ws own rows) : W.cell? ⟨x.tb, 0, none⟩ = some (.int .u32 (m : Int)) := zaa h.box rfl
theorem Tb.c1 (h : Tb B W f n x m ws own rows) : W.cell? ⟨x.tb, 1, none⟩ = some x.ov := zaa h.box rfl
theorem Tb.c2 (h : Tb B W f n x m ws own rows) : W.cell? ⟨x.tb, 2, none⟩ = some (.map (some x.cm)) := zaa h.box rfl
theorem Tb.ne (h : Tb B W f n x m ws own rows) : x.tb ≠ x.cm := h.map.zcg h.box
theorem Tb.zvs (h : Tb B W f n x m ws own rows) {k : Nat} (hk : x.ov.ownBlock = some k) : k ≠ x.tb /\ k ≠ x.cm := by
 obtain ⟨c, hc⟩ := zbd h.own hk
 refine ⟨fun e => ?_, h.map.zcg hc⟩
 rw [e, h.box] at hc
 simp at hc
theorem Tb.look (h : Tb B W f n x m ws own rows) (i : Int) (hi : I64 i) :
  (Instr.lookup 269 (.map (some x.cm)) (.int .i64 i) false).run Tryz.prog W = .ok (ptrV (lk (zcv m x.cb) i)) W := h.map.look Tryz.underlying269 (zxs W) i hi
theorem Tb.look_ok (h : Tb B W f n x m ws own rows) (i : Int) (hi : I64 i) :
  (Instr.lookup 269 (.map (some x.cm)) (.int .i64 i) true).run Tryz.prog W = .ok (.tuple #[ptrV (lk (zcv m x.cb) i), .bool (lk (zcv m x.cb) i).isSome]) W := h.map.look_ok Tryz.underlying269 (zxs W) i hi
end
structure CV where
 wv : Value
 ab : Nat
 tm : Nat
 rb : Nat
 sv : Nat
 t : Nat
 seat : List (Nat × Nat)
 tab : Nat -> Option (List (Nat × Nat))
 tv : Nat -> TV
 f : Nat -> Nat × Nat × Nat
def CV.box (c : CV) : Array Value := #[c.wv, .pointer (some ⟨c.ab, 0, none⟩), .map (some c.tm), .pointer (some ⟨c.rb, 0, none⟩), .slice (some ⟨c.sv, 0, none⟩) c.seat.length c.seat.length]
def rowsOf (s : SD) (own : List (Nat × Nat)) (c : Nat) : List Pt := own.map fun e => ptAt (s.at e.1) c
def zau (tab : Nat -> Option (List (Nat × Nat))) (tv : Nat -> TV) : Nat -> Option Nat := fun n => (tab n).map fun _ => (tv n).tb
structure Sto (ex : Option Nat) (B : Nat) (W : World) (sb : Nat) (c : CV) (s : SD) : Prop where
 box : W.heap[sb]? = some (.cells c.box 183 (0, 0))
 wd : Ints B W c.wv s.ws
 atl : Atl B W c.ab ⟨s.ws.length, s.sets⟩ (fun k => c.f k = (3, 0, 0))
 rol : Rol B W c.rb c.t s.r (fun k => c.f k = (2, 0, 0))
 seats : W.heap[c.sv]? = some (.cells (zae c.seat).toArray 267 (0, 0))
 map : PMap W c.tm (zau c.tab c.tv)
 tabs : ∀ n own, c.tab n = some own -> ∃ m, s.sets[n]? = some m /\ Tb B W c.f n (c.tv n) m s.ws own (rowsOf s own)
 fp : ∀ k, c.f k = (1, 0, 0) ↔ k = sb \/ k = c.tm \/ k = c.sv \/ c.wv.ownBlock = some k
 lt : ∀ k, c.f k ≠ (0, 0, 0) -> B <= k /\ k < W.heap.size
 okw : okW s.ws
 n2 : s.p.length = 64
 lk : Lk ex c.tab c.seat s
 only : ∀ k n, cls n (c.f k) -> c.tab n ≠ none
 small : c.t <= 900000
section
variable {ex : Option Nat} {B : Nat} {W W' : World} {sb : Nat} {c : CV} {s : SD}
theorem Sto.fsb (h : Sto ex B W sb c s) : c.f sb = (1, 0, 0) := (h.fp _).2 (.inl rfl)
theorem Sto.ftm (h : Sto ex B W sb c s) : c.f c.tm = (1, 0, 0) := (h.fp _).2 (.inr (.inl rfl))
theorem Sto.fsv (h : Sto ex B W sb c s) : c.f c.sv = (1, 0, 0) := (h.fp _).2 (.inr (.inr (.inl rfl)))
theorem Sto.fwv (h : Sto ex B W sb c s) {k : Nat} (hk : c.wv.ownBlock = some k) : c.f k = (1, 0, 0) := (h.fp _).2 (.inr (.inr (.inr hk)))
theorem zan {n : Nat} {l : Nat × Nat × Nat} (h : cls n l) : l ≠ (0, 0, 0) /\ l ≠ (1, 0, 0) /\ l ≠ (2, 0, 0) /\ l ≠ (3, 0, 0) := by
 rcases h with rfl | ⟨c, rfl⟩ <;> simp
theorem Sto.keep {T : Nat -> Prop} (h : Sto ex B W sb c s) (hs : St T W W') (hd : ∀ k, c.f k ≠ (0, 0, 0) -> ¬ T k) : Sto ex B W' sb c s where
 box := hs.at h.box (hd _ (by rw [h.fsb]; simp))
 wd := zai h.wd hs fun k hk => hd k (by rw [h.fwv hk]; simp)
 atl := h.atl.kept hs fun k hk => hd k (by rw [hk]; simp)
 rol := h.rol.kept (zkf hs) fun k hk => hd k (by rw [hk]; simp)
 seats := hs.at h.seats (hd _ (by rw [h.fsv]; simp))
 map := h.map.kept hs (hd _ (by rw [h.ftm]; simp))
 tabs := fun n own hn => by
  obtain ⟨m, h1, h2⟩ := h.tabs n own hn
  exact ⟨m, h1, h2.move hs (fun k hk => hd k (zan hk).1) fun _ _ _ => Iff.rfl⟩
 fp := h.fp
 lt := fun k hk => ⟨(h.lt k hk).1, Nat.lt_of_lt_of_le (h.lt k hk).2 hs.size⟩
 okw := h.okw
 n2 := h.n2
 lk := h.lk
 only := h.only
 small := h.small
theorem Sto.later (h : Sto ex B W sb c s) (hb : Below W.heap.size W W') : Sto ex B W' sb c s := h.keep (T := fun _ => False) (St.of_below hb) fun _ _ q => q
theorem Sto.c0 (h : Sto ex B W sb c s) : W.cell? ⟨sb, 0, none⟩ = some c.wv := zaa h.box rfl
theorem Sto.c1 (h : Sto ex B W sb c s) : W.cell? ⟨sb, 1, none⟩ = some (.pointer (some ⟨c.ab, 0, none⟩)) := zaa h.box rfl
theorem Sto.c2 (h : Sto ex B W sb c s) : W.cell? ⟨sb, 2, none⟩ = some (.map (some c.tm)) := zaa h.box rfl
theorem Sto.c3 (h : Sto ex B W sb c s) : W.cell? ⟨sb, 3, none⟩ = some (.pointer (some ⟨c.rb, 0, none⟩)) := zaa h.box rfl
theorem Sto.c4 (h : Sto ex B W sb c s) : W.cell? ⟨sb, 4, none⟩ = some (.slice (some ⟨c.sv, 0, none⟩) c.seat.length c.seat.length) := zaa h.box rfl
theorem Sto.big (h : Sto ex B W sb c s) : B <= W.heap.size := by have := h.lt sb (by rw [h.fsb]; simp); omega
theorem zkn {l : List (Nat × Nat)} {j : Nat} {p : Nat × Nat} (h : l[j]? = some p) : (zae l)[j * 2]? = some (.int .i64 (p.1 : Int)) /\ (zae l)[j * 2 + 1]? = some (.int .i64 (p.2 : Int)) := by
 induction l generalizing j with
 | nil => simp at h
 | cons a l ih =>
  have e : zae (a :: l) = [Ro.gI a.1, Ro.gI a.2] ++ zae l := by simp [zae]
  cases j with
  | zero =>
   simp at h
   subst h
   rw [e]
   exact ⟨rfl, rfl⟩
  | succ j =>
   have := ih (j := j) (by simpa using h)
   rw [e, show (j + 1) * 2 = j * 2 + 2 by omega, show j * 2 + 2 + 1 = j * 2 + 1 + 2 by omega]
   exact this
theorem Sto.zmt (h : Sto ex B W sb c s) {i n j : Nat} (hi : c.seat[i]? = some (n, j)) : W.cell? ⟨c.sv, i * 2, none⟩ = some (.int .i64 (n : Int)) /\ W.cell? ⟨c.sv, i * 2 + 1, none⟩ = some (.int .i64 (j : Int)) := by
 have := zkn hi
 exact ⟨zaa h.seats (by simpa using this.1), zaa h.seats (by simpa using this.2)⟩
theorem Sto.look (h : Sto ex B W sb c s) (i : Int) (hi : I64 i) :
  (Instr.lookup 178 (.map (some c.tm)) (.int .i64 i) false).run Tryz.prog W = .ok (ptrV (So.lk (zau c.tab c.tv) i)) W := h.map.look Tryz.underlying178 (zxl W) i hi
theorem Sto.look_ok (h : Sto ex B W sb c s) (i : Int) (hi : I64 i) :
  (Instr.lookup 178 (.map (some c.tm)) (.int .i64 i) true).run Tryz.prog W = .ok (.tuple #[ptrV (So.lk (zau c.tab c.tv) i), .bool (So.lk (zau c.tab c.tv) i).isSome]) W := h.map.look_ok Tryz.underlying178 (zxl W) i hi
end
end So
namespace So
open Go.RowKit Go.Shelf Go.Maps
open Co (Col CS)
open At (St bAl zaa zab lst zbc Ints zfn)
open Rs (okW)
theorem zwb {B B' : Nat} {W : World} {rb : Nat} {s : CS} {S : Nat -> Prop} (h : Col B W rb s S) (hB : B' <= B) : Col B' W rb s S := by
 obtain ⟨mb, sv, h1, h2⟩ := h
 exact ⟨mb, sv, { h1 with row := ⟨h1.row.1, h1.row.2.elim .inl fun ⟨g, cap, cur, q1, q2, q3⟩ => .inr ⟨g, cap, cur, q1, by omega, q3⟩⟩, low := ⟨Nat.le_trans hB h1.low.1, Nat.le_trans hB h1.low.2⟩ }, h2⟩
theorem zax {T : Nat -> Prop} {W W' : World} {p : Addr} {u : Value} (hs : St T W W') (h : W.cell? p = some u) (hn : ¬ T p.block) : W'.cell? p = some u :=
 (World.cell?_of_block (w := W) (hs.block p.block (World.block_lt_of_cell? W p h) hn)).trans h
structure Mt (B : Nat) (W : World) (f0 : Nat -> Nat × Nat × Nat) (n tb cm m : Nat) (ws cs : List Nat) (j : Nat) (f : Nat -> Nat × Nat × Nat) (cb : Nat -> Nat) (wr : World) : Prop where
 box : wr.heap[tb]? = some (.cells #[.int .u32 (m : Int), .slice none 0 0, .map (some cm)] 271 (0, 0))
 map : PMap wr cm (fun c => if c ∈ cs.take j then some (cb c) else none)
 col : ∀ c ∈ cs.take j, ∃ w, ws[c]? = some w /\ Col B wr (cb c) ⟨(c : Int), w, []⟩ (fun k => f k = (5, n, c))
 no : ∀ k c, c ∉ cs.take j -> f k ≠ (5, n, c)
 fp : ∀ k, f k = (4, n, 0) ↔ k = tb \/ k = cm
 rc : Rec (cls n) f0 f W.heap.size wr.heap.size
 bel : Below W.heap.size W wr
 low : W.heap.size <= tb /\ W.heap.size <= cm
section
variable {B : Nat} {W : World} {f0 : Nat -> Nat × Nat × Nat} {n tb cm m : Nat} {ws cs : List Nat} {j : Nat} {f : Nat -> Nat × Nat × Nat} {cb : Nat -> Nat} {wr : World}
theorem Mt.start (W : World) (hlt : ∀ k, f0 k ≠ (0, 0, 0) -> k < W.heap.size) (hno : ∀ k, ¬ cls n (f0 k)) (m : Nat) (ws cs : List Nat) (cb : Nat -> Nat) :
  ∃ f, Mt B W f0 n (W.heap.size + 1) W.heap.size m ws cs 0 f cb ((W.alloc (.map #[] 0)).alloc (.cells #[.int .u32 (m : Int), .slice none 0 0, .map (some W.heap.size)] 271)) := by
 obtain ⟨f, h1, h2⟩ := zvg f0 (l := (4, n, 0)) (by simp) (S := fun k => k = W.heap.size + 1 \/ k = W.heap.size) (N := W.heap.size) (N' := W.heap.size + 2) (fun k hk => .inr (by omega)) hlt (fun k hk => by omega) (by omega)
 refine ⟨f, ?_, ?_, by simp, fun k c _ e => ?_, h1, ?_, (bAl W _).alloc (by simp) _, by omega, Nat.le_refl _⟩
 ·have := heap_alloc_new (W.alloc (.map #[] 0)) (.cells #[.int .u32 (m : Int), .slice none 0 0, .map (some W.heap.size)] 271)
  simpa using this
 ·have := (znc W).kept (T := fun _ => False) (St.of_below (bAl (W.alloc (.map #[] 0)) (.cells #[.int .u32 (m : Int), .slice none 0 0, .map (some W.heap.size)] 271))) id
  simpa using this
 ·have := (h2.out (5, n, c) (by simp) (by simp) k).1 e
  exact hno k (.inr ⟨c, this⟩)
 have := h2.mono (C' := cls n) (fun l hl => .inl hl) (zdk n)
 simpa using this
theorem Mt.next (h : Mt B W f0 n tb cm m ws cs j f cb wr) (hB : B <= W.heap.size) {c w : Nat} (hc : cs[j]? = some c) (hnd : cs.Nodup) (hw : ws[c]? = some w) {w1 w2 : World} {rb : Nat} {S : Nat -> Prop} (hcol : Col wr.heap.size w1 rb ⟨(c : Int), w, []⟩ S) (hb : Below wr.heap.size wr w1)
  (hp : PMap w2 cm (gput (fun c => if c ∈ cs.take j then some (cb c) else none) c (some rb))) (hs : St (fun k => k = cm) w1 w2) : ∃ f' cb', Mt B W f0 n tb cm m ws cs (j + 1) f' cb' w2 := by
 have htk : cs.take (j + 1) = cs.take j ++ [c] := by
  obtain ⟨hl, rfl⟩ := List.getElem?_eq_some_iff.1 hc
  exact List.take_succ_eq_append_getElem hl
 have hcn : c ∉ cs.take j := fun q => by
  have : (cs.take (j + 1)).Nodup := hnd.sublist (List.take_sublist _ _)
  rw [htk, List.nodup_append] at this
  exact this.2.2 c q c (by simp) rfl
 have hcm : cm < wr.heap.size := h.map.lt
 obtain ⟨f', h1, h2⟩ := zvg f (l := (5, n, c)) (by simp) (S := S) (N := wr.heap.size) (N' := w2.heap.size) (fun k hk => .inr (hcol.lt k hk).1) h.rc.lt (fun k hk => Nat.lt_of_lt_of_le (hcol.lt k hk).2 hs.size) (Nat.le_trans hb.size hs.size)
 have s01 : St (fun _ => False) wr w1 := St.of_below hb
 have k1 : ∀ {k : Nat} {o : Obj}, wr.heap[k]? = some o -> k ≠ cm -> w2.heap[k]? = some o := fun q ne => hs.at (s01.at q id) ne
 refine ⟨f', fun x => if x = c then rb else cb x, ?_, ?_, ?_, ?_, ?_, ?_, ?_, h.low⟩
 ·exact k1 h.box (h.map.zcg h.box)
 ·have e : (fun x => if x ∈ cs.take (j + 1) then some (if x = c then rb else cb x) else none) = gput (fun c => if c ∈ cs.take j then some (cb c) else none) c (some rb) := by
   funext x
   unfold gput
   by_cases e : x = c
   ·subst e; simp [htk]
   simp [htk, e]
  rw [e]
  exact hp
 ·intro x hx
  rw [htk] at hx
  by_cases e : x = c
  ·subst e
   refine ⟨w, hw, ?_⟩
   rw [if_pos rfl]
   exact zeb (zwb (hcol.kept (znm hs) fun k hk e => by have := (hcol.lt k hk).1; omega) (Nat.le_trans hB h.bel.size)) h1
  have hx' : x ∈ cs.take j := by simpa [e] using hx
  obtain ⟨w', q1, q2⟩ := h.col x hx'
  refine ⟨w', q1, ?_⟩
  rw [if_neg e]
  have hfc : ∀ k, f k = (5, n, x) -> k ≠ cm := fun k hk q => by
   have := (h.fp k).2 (.inr q)
   rw [this] at hk
   simp at hk
  refine zeb ((q2.kept (znm s01) fun k hk q => q).kept (znm hs) fun k hk q => hfc k hk q) fun k => ?_
  exact h2.out (5, n, x) (by simp) (by simp [e]) k
 ·intro k x hx e
  rw [htk] at hx
  have hxc : x ≠ c := fun q => hx (by simp [q])
  have := (h2.out (5, n, x) (by simp) (by simp [hxc]) k).1 e
  exact h.no k x (fun q => hx (by simp [q])) this
 ·intro k
  exact (h2.out (4, n, 0) (by simp) (by simp) k).trans (h.fp k)
 ·exact h.rc.trans (h2.mono (fun l hl => .inr ⟨c, hl⟩) (zdk n)) h.bel.size
 exact h.bel.trans ((hb.mono h.bel.size).trans (hs.below (fun k hk => hk ▸ h.low.2) (Nat.le_trans h.bel.size hb.size)))
theorem Mt.later {w' : World} (h : Mt B W f0 n tb cm m ws cs j f cb wr) (hb : Below wr.heap.size wr w') : Mt B W f0 n tb cm m ws cs j f cb w' where
 box := zab hb (Nat.le_refl _) h.box
 map := h.map.kept (T := fun _ => False) (St.of_below hb) id
 col := fun c hc => by
  obtain ⟨w, q1, q2⟩ := h.col c hc
  exact ⟨w, q1, q2.later hb⟩
 no := h.no
 fp := h.fp
 rc := ⟨h.rc.out, h.rc.new, fun k hk => Nat.lt_of_lt_of_le (h.rc.lt k hk) hb.size⟩
 bel := h.bel.trans (hb.mono h.bel.size)
 low := h.low
theorem Mt.done (h : Mt B W f0 n tb cm m ws (lst 32 m) (lst 32 m).length f cb wr) (hB : B <= W.heap.size) (hm : m < 65536) : Tb B wr f n ⟨tb, .slice none 0 0, cm, cb⟩ m ws [] (fun _ => []) := by
 have hmem : ∀ c, c ∈ (lst 32 m).take (lst 32 m).length ↔ m.testBit c = true := fun c => by
  rw [List.take_length, zbc]
  refine ⟨fun q => q.2, fun q => ⟨?_, q⟩⟩
  refine Nat.lt_of_not_le fun hc => ?_
  rw [At.zfq (n := 16) hm (by omega)] at q
  cases q
 refine ⟨h.box, World.ownsRow_nil _ _ _ _, ?_, fun c hc => h.col c ((hmem c).2 hc), fun k => ?_, Nat.le_trans hB h.low.1, Nat.le_trans hB h.low.2⟩
 ·have e : zcv m cb = (fun c => if c ∈ (lst 32 m).take (lst 32 m).length then some (cb c) else none) := by
   funext c
   unfold zcv
   by_cases q : m.testBit c = true
   ·rw [if_pos q, if_pos ((hmem c).2 q)]
   rw [if_neg q, if_neg fun p => q ((hmem c).1 p)]
  show PMap wr cm (zcv m cb)
  rw [e]
  exact h.map
 rw [h.fp k]
 simp [Value.ownBlock]
end
theorem zol (m : Nat) : (lst 32 m).length <= 32 := At.zfu m 32
theorem znk (m k : Nat) : (lst k m).Nodup := (zhh m k).imp fun h => by omega
set_option maxRecDepth 100000 in
theorem znd {B B' : Nat} (W : World) (f0 : Nat -> Nat × Nat × Nat) (n m : Nat) (ws : List Nat) (wv : Value) (hB : B <= W.heap.size) (hlt : ∀ k, f0 k ≠ (0, 0, 0) -> k < W.heap.size) (hno : ∀ k, ¬ cls n (f0 k)) (hm : m < 2 ^ ws.length) (hw : okW ws) (hwv : Ints B' W wv ws) :
  Calls Tryz.prog 172 #[.int .u32 (m : Int), wv] W fun e W' => ∃ x : TV, e = .returned (.pointer (some ⟨x.tb, 0, none⟩)) /\ ∃ f', Tb B W' f' n x m ws [] (fun _ => []) /\ Rec (cls n) f0 f' W.heap.size W'.heap.size /\ Below W.heap.size W W' := by
 have hm16 : m < 65536 := Nat.lt_of_lt_of_le hm (zfn hw.1)
 have hmm := run_makeMap (P := Tryz.prog) 269
 obtain ⟨wa, wc, rfl⟩ := hwv.slice
 obtain ⟨f1, M0⟩ := Mt.start (B := B) W hlt hno m ws (lst 32 m) (fun _ => 0)
 have MS := hid M0
 have WV := hid hwv
 have LI := hid (fun w => At.zdp m (by omega) w)
 have hwl := hw.1
 have HW := hid hw
 have HM := hid hm
 have HL := hid (zol m)
 clear M0 hwv hm hw hlt hno
 go_enter Tryz.func172, Tryz.ntmps172
 go_wp2_with fail
 obtain ⟨w1, hw1⟩ : ∃ w1, w1 = (W.alloc (.map #[] 0)).alloc (.cells #[.int .u32 (m : Int), .slice none 0 0, .map (some W.heap.size)] 271) := ⟨_, rfl⟩
 rw [<- hw1] at MS ⊢
 clear hmm hw1
 refine (LI.out _).mono ?_
 rintro e w2 ⟨lv, rfl, hlv, hb2⟩
 obtain ⟨la, lc, rfl⟩ := hlv.slice
 have b12 : Below W.heap.size w1 w2 := hb2.mono MS.out.bel.size
 have LV := hid hlv
 have MS2 : Hid (Mt B W f0 n (W.heap.size + 1) W.heap.size m ws (lst 32 m) 0 f1 (fun _ => 0) w2) := MS.out.later hb2
 have HB2 := hid hb2
 clear hlv hb2 b12 LI
 go_wp2_with fail
 generalize hcs : lst 32 m = cs at *
 have HCS := hid hcs
 clear hcs
 have hlen : cs.length <= 32 := HL.out
 have hleni : (cs.length : Int) <= 32 := by omega
 go_loopg [7, 15] cs.length (fun gh _ i wr => ∃ k : Nat, k <= cs.length /\ gh = cs.length - k /\ i = .int .i64 (k : Int) /\ ∃ f cb, Hid (Mt B W f0 n (W.heap.size + 1) W.heap.size m ws cs k f cb wr) /\ Hid (Ints w1.heap.size wr (.slice la cs.length lc) cs))
 case atStart => exact ⟨0, Nat.zero_le _, rfl, rfl, _, _, MS2.out, LV.out⟩
 case round =>
  obtain ⟨k, hk, rfl, rfl, f, cb, HM1, HB1⟩ := hrel
  by_cases hlt : k < cs.length
  ·have hki : (k : Int) < (cs.length : Int) := by omega
   obtain ⟨c, hc⟩ := zal cs k hlt
   have hcm : c ∈ lst 32 m := by rw [HCS.out]; exact List.mem_of_getElem? hc
   have hcb := (zbc m c 32).1 hcm
   have hcw : c < ws.length := Nat.lt_of_not_le fun q => by
    have := At.zfq HM.out q
    rw [this] at hcb
    exact absurd hcb.2 (by simp)
   obtain ⟨w, hw⟩ := zal ws c hcw
   have hw14 := HW.out.2 w (List.mem_of_getElem? hw)
   obtain ⟨g, rfl, -, -⟩ := HB1.out.some (by omega)
   obtain ⟨g2, rfl, -, -⟩ := WV.out.some (by omega)
   have W1 := hid (WV.out.later HM1.out.bel)
   have c1 := HB1.out.cell hc
   have NX := hid (fun (w1 w2 : World) (rb : Nat) (S : Nat -> Prop) (h1 : Col wr.heap.size w1 rb ⟨(c : Int), w, []⟩ S) (h2 : Below wr.heap.size wr w1) (h3 : PMap w2 W.heap.size (gput (fun c => if c ∈ cs.take k then some (cb c) else none) c (some rb))) (h4 : St (fun k => k = W.heap.size) w1 w2) => HM1.out.next hB hc (HCS.out ▸ znk m 32) hw h1 h2 h3 h4)
   have HN : Hid (∀ x b, (fun c => if c ∈ cs.take k then some (cb c) else none) x = some b -> x < 70000) := fun x b q => by
    by_cases hx : x ∈ cs.take k
    ·have h1 : x ∈ lst 32 m := by rw [HCS.out]; exact List.mem_of_mem_take hx
     have := ((zbc m x 32).1 h1).1
     omega
    simp [hx] at q
   have CN := hid (fun W' => Co.z8l W' (c : Int) w (by omega) (by omega) hw14.1 hw14.2)
   have hci : (c : Int) < (ws.length : Int) := by omega
   have hg2 : ¬ (g2 = W.heap.size) := by have := (WV.out.lt g2 rfl).2; omega
   have hci2 : (c : Int) <= 100000 := by omega
   have KK : Hid (∀ W', Below wr.heap.size wr W' -> W'.cell? ⟨W.heap.size + 1, 2, none⟩ = some (.map (some W.heap.size)) /\ W'.cell? ⟨g2, c, none⟩ = some (.int .i64 (w : Int))) := fun W' hb =>
    ⟨zaa (HM1.out.later hb).box rfl, (W1.out.later hb).cell hw⟩
   clear hc hcm hcb hw hw14 hcw
   go_wp2_with fail
   go_region_held3 (fun W' => W'.cell? ⟨W.heap.size + 1, 2, none⟩ = some (.map (some W.heap.size)) /\ W'.cell? ⟨g2, c, none⟩ = some (.int .i64 (w : Int)))
    (first | exact KK.out _ (Below.refl _ _).drew | exact KK.out _ (Below.refl _ _) | exact K2.out | exact K3.out)
    ((go_at_call 188; refine (CN.out _).mono ?_; rintro e w3 ⟨rb, S, rfl, hcol, hb3⟩; have B3 := hid ((Below.refl wr.heap.size wr).drew.trans hb3); have C3 := hid hcol; clear hcol hb3; have K2 := hid (KK.out _ B3.out); obtain ⟨w4, hmu, hp4, hs4⟩ := (HM1.out.map.kept (T := fun _ => False) (St.of_below B3.out) id).store Tryz.underlying269 HN.out c rb (by omega); have P4 := hid hp4; have S4 := hid hs4; clear hp4 hs4; have K3 : Hid (w4.cell? ⟨W.heap.size + 1, 2, none⟩ = some (.map (some W.heap.size)) /\ w4.cell? ⟨g2, c, none⟩ = some (.int .i64 (w : Int))) := ⟨zax S4.out K2.out.1 (by simp), zax S4.out K2.out.2 hg2⟩))
   obtain ⟨f', cb', hn⟩ := NX.out _ _ _ _ C3.out B3.out P4.out S4.out
   have HN' := hid hn
   have HB4 : Hid (Ints w1.heap.size w4 (.slice (some ⟨g, 0, none⟩) cs.length lc) cs) := zai (HB1.out.later B3.out) S4.out fun x hx e => by
    have := (HB1.out.lt x hx).1
    have := MS.out.map.lt
    omega
   clear hn hmu K2 K3 B3 C3 P4 S4 NX KK CN
   go_wp2_with fail
   go_roundg (cs.length - (k + 1))
   case measure => omega
   case rel => exact ⟨k + 1, by omega, rfl, by go_num, f', cb', HN'.out, HB4.out⟩
  have hki : ¬ ((k : Int) < (cs.length : Int)) := by omega
  obtain rfl : k = cs.length := by omega
  go_wp2_with fail
  go_ret
  have hd := HM1.out
  rw [<- HCS.out] at hd
  exact ⟨_, rfl, _, hd.done hB hm16, hd.rc, hd.bel⟩
end So
namespace So
open Go.RowKit Go.Shelf Go.Maps
open Co (I64 Pt Col zaj)
open At (St bAl zaa zab zac an)
open Ro (Ents zae zgf zyq)
open Rs (Prt fitP PRow Six)
section
variable {B : Nat} {W W' : World} {f : Nat -> Nat × Nat × Nat} {n : Nat} {x : TV} {m : Nat} {ws : List Nat} {own : List (Nat × Nat)} {rows : Nat -> List Pt}
theorem Tb.yba (h : Tb B W f n x m ws own rows) (hlt : ∀ k, f k ≠ (0, 0, 0) -> k < W.heap.size) {c w : Nat} (hw : ws[c]? = some w) {r' : List Pt} {S' : Nat -> Prop} (hcol : Col B W' (x.cb c) ⟨(c : Int), w, r'⟩ S')
  (hs : St (fun k => f k = (5, n, c)) W W') (hS : ∀ k, S' k -> f k = (5, n, c) \/ W.heap.size <= k) : ∃ f', Tb B W' f' n x m ws own (fun c' => if c' = c then r' else rows c') /\ Rec (cls n) f f' W.heap.size W'.heap.size := by
 obtain ⟨f', h1, h2⟩ := zvg f (l := (5, n, c)) (by simp) (S := S') (N := W.heap.size) (N' := W'.heap.size) hS hlt (fun k hk => (hcol.lt k hk).2) hs.size
 have e4 : ∀ k, f k = (4, n, 0) -> ¬ f k = (5, n, c) := fun k hk e => by rw [hk] at e; simp at e
 refine ⟨f', ⟨hs.at h.box (e4 _ h.ftb), zai h.own hs fun k hk => e4 k (h.fov hk), h.map.kept hs (e4 _ h.fcm), fun c' hc' => ?_, fun k => (h2.out _ (by simp) (by simp) k).trans (h.fp k), h.low⟩, h2.mono (fun l hl => .inr ⟨c, hl⟩) (zdk n)⟩
 by_cases e : c' = c
 ·subst e
  refine ⟨w, hw, ?_⟩
  rw [if_pos rfl]
  exact zeb hcol h1
 obtain ⟨w', q1, q2⟩ := h.col c' hc'
 refine ⟨w', q1, ?_⟩
 rw [if_neg e]
 exact zeb (q2.kept (znm hs) fun k hk q => by rw [hk] at q; simp at q; exact e q) fun k => h2.out (5, n, c') (by simp) (by simp [e]) k
theorem Tb.zpi {rows' : Nat -> List Pt} (h : Tb B W f n x m ws own rows) (he : ∀ c, m.testBit c = true -> rows' c = rows c) : Tb B W f n x m ws own rows' :=
 { h with col := fun c hc => by rw [he c hc]; exact h.col c hc }
end
structure Grew (B : Nat) (ov : Value) (l : List (Nat × Nat)) (wc : World) (ov' : Value) (w2 : World) : Prop where
 own : Ents B w2 ov' l
 st : St (fun k => ov.ownBlock = some k) wc w2
 at' : ov'.ownBlock = ov.ownBlock \/ ∃ k, ov'.ownBlock = some k /\ wc.heap.size <= k
theorem z1t {ops : Array Oper} {o : Oper} {a : Act} {K : Act -> World -> Prop} {Q : Exit -> Act -> World -> Prop} {E : Prop} (hgd : o.guard = none) (s x : Operand)
  (ho : o.op = .call { callee := .builtin .append, args := #[s, x], argTypes := #[268, 268] }) {B tb : Nat} {wc : World} {ov : Value} {l : List (Nat × Nat)} {i g : Nat} (hown : Ents B wc ov l) (hl : l.length <= 1000) (hB : B <= wc.heap.size)
  {cs : Array Value} (hbox : wc.heap[tb]? = some (.cells cs 271 (0, 0))) (hcs : cs[1]? = some ov) (hne : ov.ownBlock ≠ some tb)
  (hs : a.eval s = ov) (hx : a.eval x = .slice (some ⟨wc.heap.size, 0, none⟩) 1 1)
  (h : ∀ g' cap w2, Hid (Grew B ov (l ++ [(i, g)]) wc (.slice (some ⟨g', 0, none⟩) (l.length + 1) cap) w2) -> w2.cell? ⟨tb, 1, none⟩ = some ov -> w2.frozen? ⟨tb, 1, none⟩ = false -> K (a.put o.dst (.slice (some ⟨g', 0, none⟩) (l.length + 1) cap)) w2) :
  if Region.wanted o (yielded ops a.tmps) = true then Oper.wp Tryz.prog o a (wc.alloc (.cells #[.int .i64 (i : Int), .int .i64 (g : Int)] 144)).drew K Q else E := by
 obtain ⟨i0, hi, hz0, hz1, hz2⟩ := info_parts zyq
 have hb : Below wc.heap.size wc (wc.alloc (.cells #[.int .i64 (i : Int), .int .i64 (g : Int)] 144)).drew := ((Below.refl _ _).alloc (Nat.le_refl _) _).drew
 have ho2 : (wc.alloc (.cells #[.int .i64 (i : Int), .int .i64 (g : Int)] 144)).drew.ownsRow B 144 2 ov l.length (zae l) := World.ownsRow.alloc hown _
 have hz : (wc.alloc (.cells #[.int .i64 (i : Int), .int .i64 (g : Int)] 144)).drew.heap.size = wc.heap.size + 1 := by simp
 have hh := heap_alloc_new wc (.cells #[.int .i64 (i : Int), .int .i64 (g : Int)] 144)
 refine step_append_lies _ hgd s x 268 ho B 144 i0 (.agg #[.int .i64 0, .int .i64 0]) 2 16 Tryz.underlying268 hi hz0 hz1 hz2 rfl (by decide) ov l.length (zae l) hs ho2 ⟨wc.heap.size, 0, none⟩ 1 1 [Ro.gI i, Ro.gI g] hx rfl (fun j u hu => by
  rw [zbx]
  match j, hu with
  | 0, hu =>
   simp at hu
   subst hu
   exact zaa (W := wc.alloc _) hh rfl
  | 1, hu =>
   simp at hu
   subst hu
   exact zaa (W := wc.alloc _) hh rfl
  | j + 2, hu => simp at hu) (by intro u hu; simp at hu; rcases hu with rfl | rfl <;> rfl) (by decide) (by unfold maxLen; omega) (by omega) (by omega) (wc.heap.size + 1) hz ?_
 intro g' cap w2 ow hg hat hlt
 have st : St (fun k => ov.ownBlock = some k) wc w2 := (St.of_below hb).trans (St.zam (S := fun k => ov.ownBlock = some k) hg fun k e => e) fun _ _ q => q
 have hbx : w2.heap[tb]? = some (.cells cs 271 (0, 0)) := st.at hbox hne
 refine h g' cap w2 ⟨?_, st, ?_⟩ (zaa hbx hcs) (zac hbx 1)
 ·show World.ownsRow _ _ _ _ _ _ _
  have e : (l ++ [(i, g)]).length = l.length + 1 := by simp
  rw [e, zgf]
  exact ow
 rcases hat with h1 | h1
 ·exact .inl (by rw [h1]; rfl)
 exact .inr ⟨g', rfl, by omega⟩
section
variable {B : Nat} {W W' : World} {f : Nat -> Nat × Nat × Nat} {n : Nat} {x : TV} {m : Nat} {ws : List Nat} {own : List (Nat × Nat)} {rows : Nat -> List Pt}
theorem Tb.ycr (h : Tb B W f n x m ws own rows) (hlt : ∀ k, f k ≠ (0, 0, 0) -> k < W.heap.size) {w2 : World} {ov' : Value} {own' : List (Nat × Nat)} (ho : Ents B w2 ov' own') (hs : St (fun k => x.ov.ownBlock = some k) W w2) (hat : ov'.ownBlock = x.ov.ownBlock \/ ∃ k, ov'.ownBlock = some k /\ W.heap.size <= k) :
  ∃ f', Tb B (w2.setCell ⟨x.tb, 1, none⟩ ov') f' n ⟨x.tb, ov', x.cm, x.cb⟩ m ws own' rows /\ Rec (cls n) f f' W.heap.size (w2.setCell ⟨x.tb, 1, none⟩ ov').heap.size /\ St (fun k => cls n (f k)) W (w2.setCell ⟨x.tb, 1, none⟩ ov') := by
 have htl : x.tb < W.heap.size := (Array.getElem?_eq_some_iff.1 h.box).1
 have hnv : ∀ k, ov'.ownBlock = some k -> k ≠ x.tb /\ k ≠ x.cm := fun k hk => by
  rcases hat with e | ⟨y, e, hy⟩
  ·exact h.zvs (e ▸ hk)
  rw [e] at hk
  simp at hk
  have := h.map.lt
  omega
 have htb : ¬ x.ov.ownBlock = some x.tb := fun e => (h.zvs e).1 rfl
 have s2 : St (fun k => k = x.tb) w2 (w2.setCell ⟨x.tb, 1, none⟩ ov') := St.setCell _ rfl
 obtain ⟨f', h1, h2⟩ := zvg f (l := (4, n, 0)) (by simp) (S := fun k => k = x.tb \/ k = x.cm \/ ov'.ownBlock = some k) (N := W.heap.size) (N' := (w2.setCell ⟨x.tb, 1, none⟩ ov').heap.size) (fun k hk => by
  rcases hk with rfl | rfl | hk
  ·exact .inl h.ftb
  ·exact .inl h.fcm
  ·rcases hat with e | ⟨y, e, hy⟩
   ·exact .inl (h.fov (e ▸ hk))
   rw [e] at hk; simp at hk; exact .inr (by omega)) hlt (fun k hk => by
  have hw := hs.size
  rcases hk with rfl | rfl | hk
  ·simp; omega
  ·have := h.map.lt; simp; omega
  have := (World.ownsRow.lt ho k hk).2; simpa using this) (by simpa using hs.size)
 have s12 : St (fun k => f k = (4, n, 0)) W (w2.setCell ⟨x.tb, 1, none⟩ ov') := St.trans (S := fun k => f k = (4, n, 0)) ⟨hs.os, hs.tape, hs.output, hs.size, fun k hk hn => hs.block k hk fun q => hn (h.fov q)⟩ s2 fun k _ hk => by rw [hk]; exact h.ftb
 refine ⟨f', ⟨?_, ?_, ?_, fun c hc => ?_, h1, h.low⟩, h2.mono (fun l hl => .inl hl) (zdk n), ⟨s12.os, s12.tape, s12.output, s12.size, fun k hk hn => s12.block k hk fun q => hn (.inl q)⟩⟩
 ·exact heap_setCell_same w2 x.tb 1 _ 271 ov' (hs.at h.box htb)
 ·exact zai ho s2 fun k hk q => (hnv k hk).1 q
 ·exact (h.map.kept hs fun e => (h.zvs e).2 rfl).kept s2 fun e => h.ne e.symm
 obtain ⟨w', q1, q2⟩ := h.col c hc
 exact ⟨w', q1, zeb (q2.kept (znm s12) fun k hk q => by rw [hk] at q; simp at q) fun k => h2.out (5, n, c) (by simp) (by simp) k⟩
end
def pushed (rows : Nat -> List Pt) (l : List Prt) (c : Nat) : List Pt := rows c ++ (l.filter fun p => p.c == (c : Int)).map pt
theorem zqh (rows : Nat -> List Pt) {l : List Prt} {k : Nat} {p : Prt} {c0 : Nat} (hp : l[k]? = some p) (hc : p.c = (c0 : Int)) : pushed rows (l.take (k + 1)) = fun c => if c = c0 then pushed rows (l.take k) c0 ++ [pt p] else pushed rows (l.take k) c := by
 have e : l.take (k + 1) = l.take k ++ [p] := by
  obtain ⟨hl, rfl⟩ := List.getElem?_eq_some_iff.1 hp
  exact List.take_succ_eq_append_getElem hl
 funext c
 unfold pushed
 rw [e]
 by_cases q : c = c0
 ·subst q
  simp [hc]
 rw [if_neg q]
 simp [hc]
 omega
theorem ztr (rows : Nat -> List Pt) (l : List Prt) (c : Nat) : (pushed rows l c).length <= (rows c).length + l.length := by
 unfold pushed
 have := List.length_filter_le (fun p : Prt => p.c == (c : Int)) l
 simp
 omega
theorem ztn (rows : Nat -> List Pt) {l : List Prt} (h : Apart l) {c : Nat} {p : Prt} (hp : p ∈ l) (hc : p.c = (c : Int)) : pushed rows l c = rows c ++ [ptAt l c] := by
 unfold pushed
 rw [zfh h hp hc]
 congr 1
 have : l.filter (fun q => q.c == (c : Int)) = [p] := by
  clear rows
  induction l with
  | nil => simp at hp
  | cons a l ih =>
   rw [Apart, List.pairwise_cons] at h
   rcases List.mem_cons.1 hp with rfl | hp'
   ·rw [List.filter_cons_of_pos (by simp [hc])]
    congr 1
    rw [List.filter_eq_nil_iff]
    intro b hb
    have := h.1 b hb
    simp; omega
   have := h.1 p hp'
   rw [List.filter_cons_of_neg (by simp; omega)]
   exact ih h.2 hp'
 rw [this]
 rfl
def zbg (S : Nat -> Prop) (W : World) (v : Value) (l : List Prt) : Prop := ∃ a c, v = .slice a l.length c /\ (l = [] \/ ∃ b o, a = some ⟨b, o, none⟩ /\ ¬ S b /\ ∀ (j : Nat) p, l[j]? = some p -> Six W b (o + j * 6) p)
theorem zbg.row {S : Nat -> Prop} {W : World} {v : Value} {l : List Prt} (h : zbg S W v l) : PRow W v l := by
 obtain ⟨a, c, h1, h2⟩ := h
 exact ⟨a, c, h1, h2.imp id fun ⟨b, o, q1, _, q3⟩ => ⟨b, o, q1, q3⟩⟩
theorem Six.kept {T : Nat -> Prop} {W W' : World} {b o : Nat} {p : Prt} (h : Six W b o p) (hs : St T W W') (hn : ¬ T b) : Six W' b o p :=
 ⟨zax hs h.c0 hn, zax hs h.c1 hn, zax hs h.c2 hn, zax hs h.c3 hn, zax hs h.c4 hn, zax hs h.c5 hn⟩
theorem zbg.kept {S T : Nat -> Prop} {W W' : World} {v : Value} {l : List Prt} (h : zbg S W v l) (hs : St T W W') (hn : ∀ k, T k -> S k) : zbg S W' v l := by
 obtain ⟨a, c, h1, h2⟩ := h
 refine ⟨a, c, h1, h2.imp id fun ⟨b, o, q1, q2, q3⟩ => ⟨b, o, q1, q2, fun j p hj => Six.kept (q3 j p hj) hs fun e => q2 (hn b e)⟩⟩
theorem zbg.at {S : Nat -> Prop} {W : World} {a : Option Addr} {c : Nat} {l : List Prt} (h : zbg S W (.slice a l.length c) l) {j : Nat} {p : Prt} (hj : l[j]? = some p) : ∃ b o, a = some ⟨b, o, none⟩ /\ Six W b (o + j * 6) p := h.row.at hj
theorem zbg.more {S : Nat -> Prop} {W : World} {v : Value} {l : List Prt} (h : zbg S W v l) : zbg (fun k => S k \/ W.heap.size <= k) W v l := by
 obtain ⟨a, c, h1, h2⟩ := h
 refine ⟨a, c, h1, ?_⟩
 rcases l with _ | ⟨p, l⟩
 ·exact .inl rfl
 rcases h2 with h2 | ⟨b, o, q1, q2, q3⟩
 ·cases h2
 refine .inr ⟨b, o, q1, fun q => ?_, q3⟩
 have := World.block_lt_of_cell? W _ (q3 0 p rfl).c0
 rcases q with q | q
 ·exact q2 q
 have : b < W.heap.size := this
 omega
structure Pu (B : Nat) (W : World) (f : Nat -> Nat × Nat × Nat) (n : Nat) (x : TV) (m : Nat) (ws : List Nat) (own : List (Nat × Nat)) (rows : Nat -> List Pt) (v : Value) (l : List Prt) (i g : Nat) (eb k : Nat) (f' : Nat -> Nat × Nat × Nat) (wr : World) : Prop where
 tb : Tb B wr f' n x m ws own (pushed rows (l.take k))
 rc : Rec (cls n) f f' W.heap.size wr.heap.size
 st : St (fun k => cls n (f k)) W wr
 row : zbg (fun k => cls n (f k) \/ W.heap.size <= k) wr v l
 ent : wr.heap[eb]? = some (.cells #[.int .i64 (i : Int), .int .i64 (g : Int)] 144 (0, 0))
 eb : W.heap.size <= eb /\ ¬ cls n (f' eb)
section
variable {B : Nat} {W : World} {f : Nat -> Nat × Nat × Nat} {n : Nat} {x : TV} {m : Nat} {ws : List Nat} {own : List (Nat × Nat)} {rows : Nat -> List Pt} {v : Value} {l : List Prt} {i g eb k : Nat} {f' : Nat -> Nat × Nat × Nat} {wr wr' : World}
theorem Pu.later (h : Pu B W f n x m ws own rows v l i g eb k f' wr) (hb : Below wr.heap.size wr wr') : Pu B W f n x m ws own rows v l i g eb k f' wr' where
 tb := h.tb.later hb
 rc := ⟨h.rc.out, h.rc.new, fun k hk => Nat.lt_of_lt_of_le (h.rc.lt k hk) hb.size⟩
 st := h.st.trans (St.of_below (S := fun _ => False) hb) fun _ _ q => q.elim
 row := h.row.kept (T := fun _ => False) (St.of_below hb) fun _ q => q.elim
 ent := zab hb (Nat.le_refl _) h.ent
 eb := h.eb
theorem Pu.next (h : Pu B W f n x m ws own rows v l i g eb k f' wr) {p : Prt} {c w : Nat} (hp : l[k]? = some p) (hc : p.c = (c : Int)) (hw : ws[c]? = some w) {w2 : World} {S' : Nat -> Prop}
  (hcol : Col B w2 (x.cb c) ⟨(c : Int), w, pushed rows (l.take k) c ++ [pt p]⟩ S') (hs : St (fun k => f' k = (5, n, c)) wr w2) (hS : ∀ k, S' k -> f' k = (5, n, c) \/ wr.heap.size <= k) :
  ∃ f2, Pu B W f n x m ws own rows v l i g eb (k + 1) f2 w2 := by
 obtain ⟨f2, h1, h2⟩ := h.tb.yba h.rc.lt hw hcol hs hS
 have hcl : ∀ k, f' k = (5, n, c) -> cls n (f k) \/ W.heap.size <= k := fun k hk => h.rc.new k (.inr ⟨c, hk⟩)
 refine ⟨f2, ?_, h.rc.trans h2 h.st.size, ?_, ?_, ?_, h.eb.1, ?_⟩
 ·rw [zqh rows hp hc]; exact h1
 ·refine h.st.trans hs fun k hk q => (hcl k q).elim id fun q' => by omega
 ·exact h.row.kept hs hcl
 ·exact hs.at h.ent fun e => h.eb.2 (.inr ⟨c, e⟩)
 intro q
 have hlt := (Array.getElem?_eq_some_iff.1 h.ent).1
 exact (h2.new eb q).elim h.eb.2 fun q' => by omega
end
def Lds (x : TV) (wr : World) (c : Nat) (p : Prt) (W' : World) : Prop := W'.cell? ⟨x.tb, 2, none⟩ = some (.map (some x.cm)) /\ W'.cell? ⟨wr.heap.size, 0, none⟩ = some (.int .i64 (c : Int)) /\ W'.cell? ⟨wr.heap.size, 1, none⟩ = some (.int .i64 p.v0) /\ W'.cell? ⟨wr.heap.size, 2, none⟩ = some (.int .i64 p.v1) /\ W'.cell? ⟨wr.heap.size, 3, none⟩ = some (.int .i64 p.v2) /\ W'.cell? ⟨wr.heap.size, 4, none⟩ = some (.int .i64 p.v3) /\ W'.cell? ⟨wr.heap.size, 5, none⟩ = some (.int .i64 p.t) /\ (Instr.lookup 269 (.map (some x.cm)) (.int .i64 (c : Int)) false).run Tryz.prog W' = .ok (.pointer (some ⟨x.cb c, 0, none⟩)) W'
set_option maxRecDepth 100000 in
theorem z1x {B : Nat} {W : World} {f : Nat -> Nat × Nat × Nat} {n : Nat} {x : TV} {m : Nat} {ws : List Nat} {own : List (Nat × Nat)} {rows : Nat -> List Pt} (h : Tb B W f n x m ws own rows) (hlt : ∀ k, f k ≠ (0, 0, 0) -> k < W.heap.size)
  (i g : Nat) {v : Value} {l : List Prt} (hv : zbg (fun k => cls n (f k)) W v l) (hl : l.length <= 16) (hok : ∀ p ∈ l, 0 <= p.c /\ p.c < 16 /\ m.testBit p.c.toNat = true /\ fitP ws p = true /\ I64 p.t) (hr : ∀ c, (rows c).length <= 100) (ho : own.length <= 100) (hB : B <= W.heap.size) :
  Calls Tryz.prog 173 #[.pointer (some ⟨x.tb, 0, none⟩), .agg #[.int .i64 (i : Int), .int .i64 (g : Int)], v] W fun e W' => e = .returned (.int .i64 (own.length : Int)) /\ ∃ ov' f', Tb B W' f' n ⟨x.tb, ov', x.cm, x.cb⟩ m ws (own ++ [(i, g)]) (pushed rows l) /\ Rec (cls n) f f' W.heap.size W'.heap.size /\ St (fun k => cls n (f k)) W W' := by
 obtain ⟨va, vc, rfl, -⟩ := id hv
 have hli : (l.length : Int) <= 16 := by omega
 have P0 : Hid (Pu B W f n x m ws own rows (.slice va l.length vc) l i g W.heap.size 0 f (W.alloc (.cells #[.int .i64 (i : Int), .int .i64 (g : Int)] 144))) := by
  have b := bAl W (.cells #[.int .i64 (i : Int), .int .i64 (g : Int)] 144)
  refine ⟨?_, Rec.refl _ _ hlt b.size, St.of_below b, ?_, heap_alloc_new W _, Nat.le_refl _, fun q => ?_⟩
  ·have e : pushed rows (l.take 0) = rows := by funext c; simp [pushed]
   rw [e]; exact h.later b
  ·exact hv.more.kept (T := fun _ => False) (St.of_below b) fun _ q => q.elim
  have := hlt _ (zan q).1
  omega
 have HOK := hid hok
 have HR := hid hr
 have HLT := hid hlt
 have htl : x.tb < W.heap.size := (Array.getElem?_eq_some_iff.1 h.box).1
 obtain ⟨oa, oc, hov⟩ := zaf h.own
 clear hok hr hv hlt h
 go_enter Tryz.func173, Tryz.ntmps173
 go_wp2_with fail
 obtain ⟨w1, hw1⟩ : ∃ w1, w1 = W.alloc (.cells #[.int .i64 (i : Int), .int .i64 (g : Int)] 144) := ⟨_, rfl⟩
 rw [<- hw1] at P0 ⊢
 go_loopg [8, 11] l.length (fun gh _ q wr => ∃ k : Nat, k <= l.length /\ gh = l.length - k /\ q = .int .i64 (k : Int) /\ ∃ f', Hid (Pu B W f n x m ws own rows (.slice va l.length vc) l i g W.heap.size k f' wr))
 case atStart => exact ⟨0, Nat.zero_le _, rfl, rfl, f, P0.out⟩
 case round =>
  obtain ⟨k, hk, rfl, rfl, f', HP⟩ := hrel
  by_cases hlt : k < l.length
  ·have hki : (k : Int) < (l.length : Int) := by omega
   obtain ⟨p, hp⟩ := zal l k hlt
   obtain ⟨b, o, rfl, h6⟩ := HP.out.row.at hp
   obtain ⟨d0, d1, d2, d3, d4, d5⟩ := h6
   have hok := HOK.out p (List.mem_of_getElem? hp)
   obtain ⟨c, hc⟩ : ∃ c : Nat, p.c = (c : Int) := ⟨p.c.toNat, by omega⟩
   obtain ⟨w3, hw3⟩ : ∃ w3, w3 = wr.alloc (.cells #[.int .i64 (c : Int), .int .i64 p.v0, .int .i64 p.v1, .int .i64 p.v2, .int .i64 p.v3, .int .i64 p.t] 89) := ⟨_, rfl⟩
   have HW3 := hid hw3
   have B3 : Hid (Below wr.heap.size wr w3) := by rw [hw3]; exact bAl _ _
   have H3 : Hid (w3.heap[wr.heap.size]? = some (.cells #[.int .i64 (c : Int), .int .i64 p.v0, .int .i64 p.v1, .int .i64 p.v2, .int .i64 p.v3, .int .i64 p.t] 89 (0, 0))) := by rw [hw3]; exact heap_alloc_new wr _
   have hbit : m.testBit c = true := by have := hok.2.2.1; rw [hc] at this; simpa using this
   have hc16 : c < 16 := by omega
   have LKE : lk (zcv m x.cb) (c : Int) = some (x.cb c) := by rw [zjq]; unfold zcv; rw [if_pos hbit]
   have PS : Hid (∀ W' f2 k2, Pu B W f n x m ws own rows (.slice (some ⟨b, o, none⟩) l.length vc) l i g W.heap.size k2 f2 W' -> W'.heap[wr.heap.size]? = some (.cells #[.int .i64 (c : Int), .int .i64 p.v0, .int .i64 p.v1, .int .i64 p.v2, .int .i64 p.v3, .int .i64 p.t] 89 (0, 0)) -> Lds x wr c p W') := fun W' f2 k2 hp hh =>
    ⟨hp.tb.c2, zaa hh rfl, zaa hh rfl, zaa hh rfl, zaa hh rfl, zaa hh rfl, zaa hh rfl, by
     have := hp.tb.look (c : Int) (zaj (by omega) (by omega))
     rw [LKE] at this
     exact this⟩
   have KK : Hid (∀ W', Below w3.heap.size w3 W' -> Lds x wr c p W') := fun W' hb => PS.out W' f' k (HP.out.later (B3.out.trans (hb.mono B3.out.size))) (zab hb (Nat.le_refl _) H3.out)
   have PC : Hid (∀ W', Below w3.heap.size w3 W' -> Calls Tryz.prog 189 #[.pointer (some ⟨x.cb c, 0, none⟩), .agg #[.int .i64 (c : Int), .int .i64 p.v0, .int .i64 p.v1, .int .i64 p.v2, .int .i64 p.v3, .int .i64 p.t]] W' fun e W2 => (∃ r : Int, e = .returned (.tuple #[.int .i64 r, .nilIface])) /\ (∃ f2, Pu B W f n x m ws own rows (.slice (some ⟨b, o, none⟩) l.length vc) l i g W.heap.size (k + 1) f2 W2) /\ Lds x wr c p W2) := fun W' hb => by
    have b' := B3.out.trans (hb.mono B3.out.size)
    have hP := HP.out.later b'
    obtain ⟨w, hw, hcol⟩ := hP.tb.col c hbit
    have hfit : (pt p).fitB w = true := by have := hok.2.2.2.1; rw [Rs.zsk hc hw] at this; exact this
    have hlen : (pushed rows (l.take k) c).length < 1000 := by
     have h1 := ztr rows (l.take k) c
     have h2 := HR.out c
     have h3 : (l.take k).length <= l.length := by simp; omega
     omega
    refine (Co.z3l hcol (pt p) hfit hok.2.2.2.2 hlen).mono ?_
    rintro e W2 ⟨rfl, S', q1, q2, q3⟩
    obtain ⟨f2, hn⟩ := hP.next hp hc hw q1 (zqd q2) q3
    refine ⟨⟨_, rfl⟩, ⟨f2, hn⟩, PS.out W2 f2 (k + 1) hn ((zqd q2).at (zab hb (Nat.le_refl _) H3.out) fun e => ?_)⟩
    have := HP.out.rc.lt _ (fun q => by rw [q] at e; simp at e)
    omega
   clear hw3 hok hbit LKE PS hp H3
   unfold Lds at KK PC
   go_wp2_with fail
   rw [<- HW3.out]
   go_region_held3 (fun W' => W'.cell? ⟨x.tb, 2, none⟩ = some (.map (some x.cm)) /\ W'.cell? ⟨wr.heap.size, 0, none⟩ = some (.int .i64 (c : Int)) /\ W'.cell? ⟨wr.heap.size, 1, none⟩ = some (.int .i64 p.v0) /\ W'.cell? ⟨wr.heap.size, 2, none⟩ = some (.int .i64 p.v1) /\ W'.cell? ⟨wr.heap.size, 3, none⟩ = some (.int .i64 p.v2) /\ W'.cell? ⟨wr.heap.size, 4, none⟩ = some (.int .i64 p.v3) /\ W'.cell? ⟨wr.heap.size, 5, none⟩ = some (.int .i64 p.t) /\ (Instr.lookup 269 (.map (some x.cm)) (.int .i64 (c : Int)) false).run Tryz.prog W' = .ok (.pointer (some ⟨x.cb c, 0, none⟩)) W')
    (first | exact KK.out _ (Below.refl _ _).drew | exact KK.out _ (Below.refl _ _) | exact K4.out)
    ((go_at_call 189; refine (PC.out _ (by first | exact (Below.refl _ _).drew | exact Below.refl _ _)).mono ?_; rintro e w4 ⟨⟨r, rfl⟩, ⟨f2, hf2⟩, hk4⟩; have F2 := hid hf2; have K4 := hid hk4; clear hf2 hk4))
   clear K4 KK PC
   go_wp2_with fail
   go_roundg (l.length - (k + 1))
   case measure => omega
   case rel => exact ⟨k + 1, by omega, rfl, by go_num, f2, F2.out⟩
  have hki : ¬ ((k : Int) < (l.length : Int)) := by omega
  obtain rfl : k = l.length := by omega
  have hrow := HP.out.tb
  rw [List.take_length] at hrow
  have T1 := hid hrow
  have c1 := T1.out.c1
  rw [hov] at c1
  have e0 := zaa HP.out.ent (j := 0) rfl
  have e1 := zaa HP.out.ent (j := 1) rfl
  have hne : (Value.slice oa own.length oc).ownBlock ≠ some x.tb := fun e => (hrow.zvs (hov ▸ e)).1 rfl
  have OW := hid (hov ▸ hrow.own)
  have BX := hid (hov ▸ hrow.box)
  have hBw : B <= wr.heap.size := Nat.le_trans hB HP.out.st.size
  have ho1 : own.length <= 1000 := by omega
  have ho2 : (own.length : Int) <= 100 := by omega
  have htn : ¬ (x.tb = wr.heap.size) := by have := HP.out.st.size; omega
  have htw : x.tb < wr.heap.size := by have := HP.out.st.size; omega
  clear hrow
  go_wp2_with fail
  go_region_law (refine z1t rfl _ _ rfl OW.out ho1 hBw BX.out rfl hne rfl rfl ?_; intro g' cap w5 hgr hx5 hf5)
  all_goals
   have gr := hgr.out
   rw [<- hov] at gr
   have RO := hid (T1.out.ycr HP.out.rc.lt gr.own gr.st gr.at')
   clear gr hgr hx5 hf5
   obtain ⟨w6, hw6⟩ : ∃ w6, w6 = w5.setCell ⟨x.tb, 1, none⟩ (.slice (some ⟨g', 0, none⟩) (own.length + 1) cap) := ⟨_, rfl⟩
   rw [<- hw6] at RO ⊢
   obtain ⟨f2, r1, r2, r3⟩ := RO.out
   have q1 : w6.cell? ⟨x.tb, 1, none⟩ = some (.slice (some ⟨g', 0, none⟩) (own.length + 1) cap) := r1.c1
   have FN : Hid (Tb B w6 f2 n ⟨x.tb, .slice (some ⟨g', 0, none⟩) (own.length + 1) cap, x.cm, x.cb⟩ m ws (own ++ [(i, g)]) (pushed rows l) /\ Rec (cls n) f f2 W.heap.size w6.heap.size /\ St (fun k => cls n (f k)) W w6) :=
    ⟨r1, HP.out.rc.trans r2 HP.out.st.size, HP.out.st.trans r3 fun k hk q => (HP.out.rc.new k q).elim id fun q' => by omega⟩
   clear r1 r2 r3 RO hw6 T1 OW BX
   go_wp2_with fail
   go_ret
   exact ⟨by simp, _, f2, FN.out⟩
end So
end Go.Proofs.YthadfdbkkmmgoaaGreatDoor
