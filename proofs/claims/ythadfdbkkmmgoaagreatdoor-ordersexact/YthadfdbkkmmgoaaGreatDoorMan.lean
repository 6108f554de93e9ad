/- A part of the proof. -/
import Derived.Test.YthadfdbkkmmgoaaGreatDoorMam
set_option maxHeartbeats 6400000
namespace Go.Proofs.YthadfdbkkmmgoaaGreatDoor
namespace Dw
open Go.RowKit Go.Shelf Go.Maps
open At (St bAl zac)
open Rs (Prt)
open Wo (Bgs BeR insB)
def bst (p : Int × List Prt) (L : Bgs) : Bool × Bgs := L.foldl (fun s x => if !s.1 && decide (p.1 < x.1) then (true, s.2 ++ [p] ++ [x]) else (s.1, s.2 ++ [x])) (false, [])
def bins (p : Int × List Prt) (L : Bgs) : Bgs := if (bst p L).1 then (bst p L).2 else (bst p L).2 ++ [p]
theorem z1u (p : Int × List Prt) {L : Bgs} {k : Nat} {x : Int × List Prt} (h : L[k]? = some x) : bst p (L.take (k + 1)) = if !(bst p (L.take k)).1 && decide (p.1 < x.1) then (true, (bst p (L.take k)).2 ++ [p] ++ [x]) else ((bst p (L.take k)).1, (bst p (L.take k)).2 ++ [x]) := by
 obtain ⟨hl, rfl⟩ := List.getElem?_eq_some_iff.1 h
 unfold bst
 rw [List.take_succ_eq_append_getElem hl, List.foldl_append]
 rfl
theorem zgw (p : Int × List Prt) : ∀ (L : Bgs) (d : Bool) (o : Bgs), L.foldl (fun s x => if !s.1 && decide (p.1 < x.1) then (true, s.2 ++ [p] ++ [x]) else (s.1, s.2 ++ [x])) (d, o) = (d || (L.any fun x => decide (p.1 < x.1)), if d then o ++ L else if (L.any fun x => decide (p.1 < x.1)) then o ++ insB p L else o ++ L)
 | [], d, o => by cases d <;> simp
 | x :: L, d, o => by
  rw [List.foldl_cons]
  cases d with
  | true =>
   have e : (if !true && decide (p.1 < x.1) then ((true, o ++ [p] ++ [x]) : Bool × Bgs) else (true, o ++ [x])) = (true, o ++ [x]) := rfl
   rw [e, zgw p L]
   simp
  | false =>
   by_cases h : p.1 < x.1
   ·have e : (if !false && decide (p.1 < x.1) then ((true, o ++ [p] ++ [x]) : Bool × Bgs) else (false, o ++ [x])) = (true, o ++ [p] ++ [x]) := by simp [h]
    rw [e, zgw p L]
    simp [insB, h]
   have e : (if !false && decide (p.1 < x.1) then ((true, o ++ [p] ++ [x]) : Bool × Bgs) else (false, o ++ [x])) = (false, o ++ [x]) := by simp [h]
   rw [e, zgw p L]
   have hd : decide (p.1 < x.1) = false := decide_eq_false h
   have hi : insB p (x :: L) = x :: insB p L := by show (if p.1 < x.1 then p :: x :: L else x :: insB p L) = _; rw [if_neg h]
   rw [hi, List.any_cons, hd, Bool.false_or]
   simp
theorem zne (p : Int × List Prt) : ∀ L : Bgs, (L.any fun x => decide (p.1 < x.1)) = false -> insB p L = L ++ [p]
 | [], _ => rfl
 | x :: L, h => by
  simp only [List.any_cons, Bool.or_eq_false_iff, decide_eq_false_iff_not] at h
  unfold insB
  rw [if_neg h.1, zne p L h.2]
  rfl
theorem z6w (p : Int × List Prt) (L : Bgs) : bins p L = insB p L := by
 unfold bins bst
 rw [zgw]
 cases h : (L.any fun x => decide (p.1 < x.1)) with
 | true => simp
 | false => simp [zne p L h]
theorem z6i (p : Int × List Prt) (L : Bgs) : (bst p L).2.length <= L.length + 1 := by
 unfold bst
 rw [zgw]
 have : (insB p L).length = L.length + 1 := by
  induction L with
  | nil => rfl
  | cons x L ih => unfold insB; split <;> simp [ih]
 simp
 split <;> simp [this]
def Rel (S : Nat -> Prop) (W : World) (F : List (Int × Value)) (M : Bgs) : Prop := F.length = M.length /\ ∀ (j : Nat) id pv, F[j]? = some (id, pv) -> ∃ ps, M[j]? = some (id, ps) /\ PS S W pv ps
theorem Rel.nil (S : Nat -> Prop) (W : World) : Rel S W [] [] := ⟨rfl, fun j id pv hj => by simp at hj⟩
theorem Rel.snoc {S : Nat -> Prop} {W : World} {F : List (Int × Value)} {M : Bgs} {id : Int} {pv : Value} {ps : List Prt} (h : Rel S W F M) (hp : PS S W pv ps) : Rel S W (F ++ [(id, pv)]) (M ++ [(id, ps)]) := by
 refine ⟨by rw [List.length_append, List.length_append, h.1]; rfl, fun j id' pv' hj => ?_⟩
 by_cases e : j < F.length
 ·rw [List.getElem?_append_left e] at hj
  obtain ⟨ps', q1, q2⟩ := h.2 j id' pv' hj
  exact ⟨ps', by rw [List.getElem?_append_left (by rw [<- h.1]; exact e)]; exact q1, q2⟩
 rw [List.getElem?_append_right (by omega)] at hj
 have e0 : j - F.length = 0 := by
  have := (List.getElem?_eq_some_iff.1 hj).1
  simp at this
  omega
 rw [e0] at hj
 obtain ⟨rfl, rfl⟩ : id = id' /\ pv = pv' := by simpa using hj
 exact ⟨ps, by rw [List.getElem?_append_right (by rw [<- h.1]; omega), <- h.1, e0]; rfl, hp⟩
theorem Rel.rb {S : Nat -> Prop} {W W' : World} {F : List (Int × Value)} {M : Bgs} {v : Value} (h : Rel S W F M) (hb : Below W.heap.size W W') (ho : BeR W.heap.size W' v F) : RB (win S W W') W' v M := by
 refine ⟨⟨F, ⟨ho.1, ho.2.elim .inl fun ⟨g, cap, cur, h1, h2, h3⟩ => .inr ⟨g, cap, cur, h1, Nat.zero_le _, h3⟩⟩, h.1, fun j id pv hj => ?_⟩, fun y hy => .inr (World.ownsRow.lt ho y hy)⟩
 obtain ⟨ps, q1, q2⟩ := h.2 j id pv hj
 exact ⟨ps, q1, (q2.later hb).mono fun _ => zbr⟩
section
variable {Z : World} {S S' T : Nat -> Prop} {W W' : World} {b : Nat} {va vb lv gv : Value} {x : DW}
set_option maxRecDepth 100000 in
theorem z7o (h : Dm Z S W b va vb lv gv x) (id : Int) (ps : List Prt) (hl63 : x.L.length < 64) (pv : Value) (hp : PS S W pv ps) :
  Calls Tryz.prog 101 #[.pointer (some ⟨b, 0, none⟩), .int .i64 id, pv] W fun e W' => e = .returned (.tuple #[]) /\ (∃ lv', Dm Z (win S W W') W' b va vb lv' gv { x with L := insB (id, ps) x.L }) /\ St (fun y => y = b) W W' := by
 have H := hid h
 obtain ⟨a, c, rfl⟩ := h.be.slice
 obtain ⟨pa, pc, rfl⟩ := hp.1.slice
 have hli : (x.L.length : Int) < 64 := by omega
 have HP := hid hp
 have b1 := bAl W (.cells #[] 133)
 have LI := hid (zqn W)
 have C3 : Hid (∀ w, Below W.heap.size W w -> w.cell? ⟨b, 3, none⟩ = some (.slice a x.L.length c)) := hid fun w hb => (H.out.later hb).cell (j := 3) rfl
 have f3 := hid fun (w : World) (hb : Below W.heap.size W w) => zac (H.out.later hb).box 3
 have AT : Hid (∀ (j : Nat) id2 ps2, x.L[j]? = some (id2, ps2) -> ∃ g pa2 pc2, a = some ⟨g, 0, none⟩ /\ (∀ w, Below W.heap.size W w -> w.cell? ⟨g, j * 2, none⟩ = some (.int .i64 id2) /\ w.cell? ⟨g, j * 2 + 1, none⟩ = some (.slice pa2 ps2.length pc2)) /\ PS S W (.slice pa2 ps2.length pc2) ps2) := hid fun j id2 ps2 hj => by
  obtain ⟨g, pv2, e, d0, d1, q⟩ := H.out.be.at hj
  obtain ⟨pa2, pc2, rfl⟩ := q.1.slice
  exact ⟨g, pa2, pc2, e, fun w hb => ⟨At.seen hb (Nat.le_refl _) d0, At.seen hb (Nat.le_refl _) d1⟩, q⟩
 have DR : Hid (∀ a' n' c' w3 F, BeR W.heap.size w3 (.slice a' n' c') F -> Rel S W F (insB (id, ps) x.L) -> Below W.heap.size W w3 -> Dm Z (win S W (w3.setCell ⟨b, 3, none⟩ (.slice a' n' c'))) (w3.setCell ⟨b, 3, none⟩ (.slice a' n' c')) b va vb (.slice a' n' c') gv { x with L := insB (id, ps) x.L } /\ St (fun y => y = b) W (w3.setCell ⟨b, 3, none⟩ (.slice a' n' c'))) := hid fun v' n' c' w3 F hw hr hb => by
  have D3 := H.out.grown hb
  have hrb := hr.rb hb hw
  have hl : (insB (id, ps) x.L).length = x.L.length + 1 := by
   have : ∀ L : Bgs, (insB (id, ps) L).length = L.length + 1 := fun L => by
    induction L with
    | nil => rfl
    | cons y L ih => unfold insB; split <;> simp [ih]
   exact this _
  obtain ⟨q1, q2⟩ := D3.own (x' := { x with L := insB (id, ps) x.L }) (lv' := .slice v' n' c') (gv' := gv) (j := 3) (v := .slice v' n' c') rfl rfl (D3.rows hrb) D3.nums (by show (insB (id, ps) x.L).length <= 64; omega)
  have es : (w3.setCell ⟨b, 3, none⟩ (.slice v' n' c')).heap.size = w3.heap.size := by simp
  refine ⟨?_, (St.of_below (S := fun y => y = b) hb).trans q2 fun _ _ q => q⟩
  unfold win at q1 ⊢
  rw [es]
  exact q1
 have B1 := hid b1
 clear h hp b1 H
 go_enter Tryz.func101, Tryz.ntmps101
 go_wp2_with fail
 generalize hbs : bst (id, ps) = bs at *
 go_loopg [6, 7, 8] x.L.length (fun gh o d i wr => ∃ (k : Nat) (F : List (Int × Value)), k <= x.L.length /\ gh = x.L.length - k /\ i = .int .i64 (k : Int) /\ d = .bool (bs (x.L.take k)).1 /\ Hid (BeR W.heap.size wr o F) /\ Hid (Rel S W F (bs (x.L.take k)).2) /\ Hid (Below W.heap.size W wr))
 case atStart => exact ⟨0, [], Nat.zero_le _, rfl, rfl, by rw [<- hbs]; rfl, LI.out, by rw [<- hbs]; exact Rel.nil _ _, B1.out⟩
 case round =>
  rename World => wr
  obtain ⟨k, F, hk, rfl, rfl, rfl, HF, HR, HB⟩ := hrel
  have c3 := C3.out wr HB.out
  have HFL : Hid (F.length = (bs (x.L.take k)).2.length) := HR.out.1
  have HBL : Hid ((bs (x.L.take k)).2.length <= k + 1) := hid (by rw [<- hbs]; have := z6i (id, ps) (x.L.take k); have h2 : (x.L.take k).length <= k := List.length_take_le _ _; omega)
  by_cases hlt : k < x.L.length
  ·have hki : (k : Int) < (x.L.length : Int) := by omega
   obtain ⟨⟨id2, ps2⟩, hx⟩ := zal x.L k hlt
   obtain ⟨g, pa2, pc2, rfl, dd, hps2⟩ := AT.out k id2 ps2 hx
   obtain ⟨d0, d1⟩ := dd wr HB.out
   have HD := hid dd
   have HP2 := hid hps2
   have HN : Hid (bs (x.L.take (k + 1)) = if !(bs (x.L.take k)).1 && decide (id < id2) then (true, (bs (x.L.take k)).2 ++ [(id, ps)] ++ [(id2, ps2)]) else ((bs (x.L.take k)).1, (bs (x.L.take k)).2 ++ [(id2, ps2)])) := hid (by rw [<- hbs]; exact z1u (id, ps) hx)
   generalize hbk : bs (x.L.take k) = bk at *
   obtain ⟨dn, M⟩ := bk
   simp only at HFL HBL HR HN
   obtain ⟨oa, oc, rfl⟩ := HF.out.slice
   have hfl := HFL.out
   have hbl := HBL.out
   generalize hnn : F.length = nn at *
   have HN8 : Hid (nn <= 70) := hid (by show nn <= 70; omega)
   have hn9 : nn <= 1000 := by omega
   have hz : W.heap.size <= wr.heap.size := HB.out.size
   have HNN := hid hnn
   clear hx hps2 dd hfl hbl hnn hbk
   cases dn with
   | true =>
    go_wp2_with (at_builtin; refine Wo.zdh rfl _ _ rfl HF.out HNN.out hn9 hz rfl rfl ?_; intro a4 c4 w4 H4 S4)
    go_roundg (x.L.length - (k + 1))
    case measure => omega
    case rel =>
     have hb4 : Below W.heap.size W w4 := HB.out.trans (S4.out.below (fun y hy => (World.ownsRow.lt HF.out y hy).1) hz)
     refine ⟨k + 1, F ++ [(id2, .slice pa2 ps2.length pc2)], by omega, rfl, by go_num, by rw [HN.out]; rfl, (by show BeR _ _ _ _; exact H4.out), ?_, hb4⟩
     show Rel _ _ _ _
     rw [HN.out]
     exact HR.out.snoc HP2.out
   | false =>
    by_cases hlt2 : id < id2
    ·have hq : decide (id < id2) = true := decide_eq_true hlt2
     go_upto_region 8 with (at_builtin; refine Wo.zdh rfl _ _ rfl HF.out HNN.out hn9 hz rfl rfl ?_; intro a4 c4 w4 H4 S4)
     have hb4 : Below W.heap.size W w4 := HB.out.trans (S4.out.below (fun y hy => (World.ownsRow.lt HF.out y hy).1) hz)
     have HB4 := hid hb4
     have c34 := C3.out w4 hb4
     obtain ⟨d04, d14⟩ := HD.out w4 hb4
     have hz4 : W.heap.size <= w4.heap.size := hb4.size
     have hn4 : nn + 1 <= 1000 := by have := HN8.out; omega
     have HNN4 : Hid ((F ++ [(id, Value.slice pa ps.length pc)]).length = nn + 1) := hid (by rw [List.length_append, HNN.out]; rfl)
     clear c3 d0 d1 hb4
     go_wp2_with (at_builtin; refine Wo.zdh rfl _ _ rfl H4.out HNN4.out hn4 hz4 rfl rfl ?_; intro a5 c5 w5 H5 S5)
     go_roundg (x.L.length - (k + 1))
     case measure => omega
     case rel =>
      have hb5 : Below W.heap.size W w5 := HB4.out.trans (S5.out.below (fun y hy => (World.ownsRow.lt H4.out y hy).1) hz4)
      refine ⟨k + 1, F ++ [(id, Value.slice pa ps.length pc)] ++ [(id2, .slice pa2 ps2.length pc2)], by omega, rfl, by go_num, by rw [HN.out, hq]; rfl, (by show BeR _ _ _ _; exact H5.out), ?_, hb5⟩
      show Rel _ _ _ _
      rw [HN.out, hq]
      exact (HR.out.snoc HP.out).snoc HP2.out
    have hq : decide (id < id2) = false := decide_eq_false hlt2
    go_wp2_with (at_builtin; refine Wo.zdh rfl _ _ rfl HF.out HNN.out hn9 hz rfl rfl ?_; intro a4 c4 w4 H4 S4)
    go_roundg (x.L.length - (k + 1))
    case measure => omega
    case rel =>
     have hb4 : Below W.heap.size W w4 := HB.out.trans (S4.out.below (fun y hy => (World.ownsRow.lt HF.out y hy).1) hz)
     refine ⟨k + 1, F ++ [(id2, .slice pa2 ps2.length pc2)], by omega, rfl, by go_num, by rw [HN.out, hq]; rfl, (by show BeR _ _ _ _; exact H4.out), ?_, hb4⟩
     show Rel _ _ _ _
     rw [HN.out, hq]
     exact HR.out.snoc HP2.out
  have hki : ¬ ((k : Int) < (x.L.length : Int)) := by omega
  obtain rfl : k = x.L.length := by omega
  rw [List.take_length] at HR HFL HBL
  have HIN : Hid (insB (id, ps) x.L = if (bs x.L).1 then (bs x.L).2 else (bs x.L).2 ++ [(id, ps)]) := hid (by rw [<- z6w, <- hbs]; rfl)
  rw [List.take_length]
  generalize hbk : bs x.L = bk at *
  obtain ⟨dn, M⟩ := bk
  simp only at HFL HBL HR HIN
  obtain ⟨oa, oc, rfl⟩ := HF.out.slice
  have hfl := HFL.out
  have hbl := HBL.out
  generalize hnn : F.length = nn at *
  have hn9 : nn <= 1000 := by omega
  have hz : W.heap.size <= wr.heap.size := HB.out.size
  have HNN := hid hnn
  have fr := f3.out wr HB.out
  clear hfl hbl hnn hbk
  cases dn with
  | true =>
   have FIN := hid (DR.out _ _ _ wr F HF.out (by rw [HIN.out]; exact HR.out) HB.out)
   go_wp2_with fail
   go_end0
   exact ⟨rfl, ⟨_, FIN.out.1⟩, FIN.out.2⟩
  | false =>
   go_upto_region 11 with (at_builtin; refine Wo.zdh rfl _ _ rfl HF.out HNN.out hn9 hz rfl rfl ?_; intro a4 c4 w4 H4 S4)
   have hb4 : Below W.heap.size W w4 := HB.out.trans (S4.out.below (fun y hy => (World.ownsRow.lt HF.out y hy).1) hz)
   have FIN := hid (DR.out _ _ _ w4 _ H4.out (by rw [HIN.out]; exact HR.out.snoc HP.out) hb4)
   have c34 := C3.out w4 hb4
   have f34 := f3.out w4 hb4
   clear c3 fr hb4
   go_wp2_with fail
   go_end0
   exact ⟨rfl, ⟨_, FIN.out.1⟩, FIN.out.2⟩
end
end Dw
namespace Dw
open Go.RowKit Go.Shelf Go.Maps
open At (St zac)
open Rs (Prt)
open Sc (Cmp)
open Wo (Bgs setB delB AP)
def Rise (L : Bgs) : Prop := L.Pairwise fun x y => x.1 < y.1
theorem z6a {α : Type} (L : List (Int × α)) (id : Int) : (L.find? fun x => x.1 == id) = (L[L.findIdx fun x => x.1 == id]?) := by
 induction L with
 | nil => rfl
 | cons x L ih =>
  rw [List.find?_cons, List.findIdx_cons]
  cases h : x.1 == id with
  | true => simp
  | false => simp [ih]
theorem z5g {α : Type} : ∀ (L : List (Int × α)) (id : Int), L.Pairwise (fun x y => x.1 < y.1) -> (L.filter fun x => !(x.1 == id)) = L.eraseIdx (L.findIdx fun x => x.1 == id)
 | [], _, _ => rfl
 | x :: L, id, h => by
  rw [List.pairwise_cons] at h
  rw [List.findIdx_cons]
  cases hx : x.1 == id with
  | true =>
   have e : x.1 = id := eq_of_beq hx
   rw [List.filter_cons_of_neg (by simp [hx])]
   simp only [cond_true, List.eraseIdx_cons_zero]
   refine List.filter_eq_self.2 fun y hy => ?_
   have := h.1 y hy
   have n : ¬ y.1 = id := by omega
   simp [n]
  | false =>
   rw [List.filter_cons_of_pos (by simp [hx]), z5g L id h.2]
   simp
theorem z4w {α : Type} : ∀ (L : List (Int × α)) (id : Int) (r : α), L.Pairwise (fun x y => x.1 < y.1) -> (L.map fun x => if x.1 = id then (id, r) else x) = L.set (L.findIdx fun x => x.1 == id) (id, r)
 | [], _, _, _ => rfl
 | x :: L, id, r, h => by
  rw [List.pairwise_cons] at h
  rw [List.findIdx_cons, List.map_cons]
  cases hx : x.1 == id with
  | true =>
   have e : x.1 = id := eq_of_beq hx
   rw [if_pos e]
   simp only [cond_true, List.set_cons_zero]
   congr 1
   have : ∀ y ∈ L, (fun x : Int × α => if x.1 = id then (id, r) else x) y = y := fun y hy => by
    have := h.1 y hy
    have n : ¬ y.1 = id := by omega
    simp [n]
   rw [List.map_congr_left this, List.map_id']
  | false =>
   have n : ¬ x.1 = id := fun e => by simp [e] at hx
   rw [if_neg n, z4w L id r h.2]
   simp
theorem zss (L : Bgs) (id : Int) : Wo.look L id = (L[plc L id]?).map (·.2) := by unfold Wo.look plc; rw [z6a]
theorem z7d {L : Bgs} {id : Int} (h : Rise L) : delB id L = L.eraseIdx (plc L id) := z5g L id h
theorem zyz {L : Bgs} {id : Int} {r : List Prt} (h : Rise L) : setB L id r = L.set (plc L id) (id, r) := z4w L id r h
theorem zlk {L : Bgs} {id : Int} (h : Wo.look L id = none) : plcI L id = -1 := by
 rw [zss] at h
 unfold plcI
 rw [if_neg]
 intro q
 rw [List.getElem?_eq_getElem q] at h
 simp at h
theorem zgs {L : Bgs} {id : Int} {row : List Prt} (h : Wo.look L id = some row) : plcI L id = (plc L id : Int) /\ plc L id < L.length /\ L[plc L id]? = some (id, row) := by
 rw [zss] at h
 obtain ⟨⟨i, r⟩, h1, h2⟩ := Option.map_eq_some_iff.1 h
 have hl := (List.getElem?_eq_some_iff.1 h1).1
 have e := List.findIdx_getElem (w := (show L.findIdx (fun x => x.1 == id) < L.length from hl))
 have e2 : L[plc L id] = (i, r) := by
  have := (List.getElem?_eq_some_iff.1 h1).2
  exact this
 have e3 : (L[plc L id]'hl).1 = id := eq_of_beq e
 rw [e2] at e3
 simp only at e3 h2
 refine ⟨by unfold plcI; rw [if_pos hl], hl, by rw [h1, e3, h2]⟩
def dw (cs : List Cmp) (most : Nat) (a : AP) : DW := ⟨cs, most, a.L, a.fr, a.n, a.sd, a.gl⟩
def Dgo (Z : World) (S : Nat -> Prop) (W W' : World) (b : Nat) (va vb gv : Value) (x' : DW) : Prop := (∃ lv', Dm Z (win S W W') W' b va vb lv' gv x') /\ St (fun y => y = b) W W'
section
variable {Z : World} {S S' T : Nat -> Prop} {W W' W2 : World} {b : Nat} {va vb lv gv : Value} {x x' : DW} {cs : List Cmp} {most : Nat} {a : AP}
theorem Dgo.stay (h : Dm Z S W b va vb lv gv x) (hb : Below W.heap.size W W') : Dgo Z S W W' b va vb gv x := ⟨⟨lv, h.grown hb⟩, St.of_below hb⟩
theorem zjm (S : Nat -> Prop) (W W1 W2 : World) (h1 : W.heap.size <= W1.heap.size) (h2 : W1.heap.size <= W2.heap.size) (y : Nat) : win (win S W W1) W1 W2 y ↔ win S W W2 y := by
 unfold win
 constructor
 ·rintro ((h | h) | h)
  ·exact .inl h
  ·exact .inr ⟨h.1, by omega⟩
  exact .inr ⟨by omega, h.2⟩
 rintro (h | h)
 ·exact .inl (.inl h)
 by_cases e : y < W1.heap.size
 ·exact .inl (.inr ⟨h.1, e⟩)
 exact .inr ⟨by omega, h.2⟩
theorem Dgo.after (hb : Below W.heap.size W W') (h : Dgo Z (win S W W') W' W2 b va vb gv x') : Dgo Z S W W2 b va vb gv x' := by
 obtain ⟨⟨lv', h1⟩, h2⟩ := h
 have w := zjm S W W' W2 hb.size h2.size
 exact ⟨⟨lv', h1.more (fun y hy => (w y).1 hy) fun y hy => h1.fin y ((w y).2 hy)⟩, (St.of_below (S := fun y => y = b) hb).trans h2 fun _ _ q => q⟩
theorem Dgo.later (h : Dgo Z S W W' b va vb gv x') (hb : Below W'.heap.size W' W2) : Dgo Z S W W2 b va vb gv x' := by
 obtain ⟨⟨lv', h1⟩, h2⟩ := h
 have q := h1.grown hb
 have w := zjm S W W' W2 h2.size hb.size
 exact ⟨⟨lv', q.more (fun y hy => (w y).1 hy) fun y hy => q.fin y ((w y).2 hy)⟩, h2.trans (St.of_below (S := fun y => y = b) hb) fun _ _ q => q⟩
theorem zft (h : Dm Z S W b va vb lv gv (dw cs most a)) (hr : Rise a.L) (id : Int) :
  Calls Tryz.prog 55 #[.pointer (some ⟨b, 0, none⟩), .int .i64 id] W fun e W' => e = .returned (.int .i64 (((a.zct id).1 : Nat) : Int)) /\ Dgo Z S W W' b va vb gv (dw cs most (a.zct id).2) := by
 have AT := hid (zhv h id)
 change Hid (Calls _ _ _ _ fun e W' => e = .returned (.int .i64 (plcI a.L id)) /\ W' = W) at AT
 have HH := hid h
 unfold AP.zct
 cases hl : Wo.look a.L id with
 | none =>
  rw [zlk hl] at AT
  clear h
  go_enter Tryz.func55, Tryz.ntmps55
  go_wp2_with fail
  refine AT.out.mono ?_
  rintro e w1 ⟨rfl, rfl⟩
  go_wp2_with fail
  go_ret
  exact ⟨rfl, Dgo.stay HH.out (Below.refl _ _)⟩
 | some row =>
  obtain ⟨e1, e2, e3⟩ := zgs hl
  rw [e1] at AT
  obtain ⟨la, lc, rfl⟩ := h.be.slice
  change Dm Z S W b va vb (.slice la a.L.length lc) gv (dw cs most a) at h
  have h64 : a.L.length <= 64 := h.l64
  obtain ⟨g, pv, rfl, d0, d1, q⟩ := h.be.at (L := a.L) e3
  obtain ⟨pa, pc, rfl⟩ := q.1.slice
  have c3 : W.cell? ⟨b, 3, none⟩ = some (.slice (some ⟨g, 0, none⟩) a.L.length lc) := h.cell (j := 3) rfl
  have NT := hid (zch h 3 id 0 0 0 0 0 0 pa row.length pc 0 0)
  have hii : (plc a.L id : Int) < (a.L.length : Int) := by omega
  have hli : (a.L.length : Int) <= 64 := by omega
  have E2 := hid e2
  have ED : Hid (delB id a.L = a.L.eraseIdx (plc a.L id)) := hid (z7d hr)
  clear h q e1 e2 e3 hl hr
  generalize hp : plc a.L id = p at *
  go_enter Tryz.func55, Tryz.ntmps55
  go_wp2_with fail
  refine AT.out.mono ?_
  rintro e w1 ⟨rfl, rfl⟩
  go_wp2_with fail
  refine NT.out.mono ?_
  rintro e w2 ⟨rfl, hb⟩
  have DP := hid (z1s (HH.out.grown hb) p E2.out)
  have HB := hid hb
  clear hb NT AT c3 d0 d1
  go_wp2_with fail
  refine DP.out.mono ?_
  rintro e w3 ⟨rfl, hd, hs⟩
  have DG := hid (Dgo.after HB.out ⟨hd, hs⟩)
  clear hd hs DP
  go_wp2_with fail
  go_ret
  refine ⟨rfl, ?_⟩
  rw [ED.out]
  exact DG.out
theorem z1e (h : Dm Z S W b va vb lv gv (dw cs most a)) (hf : a.fr <= 1073741824) (hf0 : 0 <= a.fr) :
  Calls Tryz.prog 21 #[.pointer (some ⟨b, 0, none⟩)] W fun e W' => e = .returned (.int .i64 (if a.fr < 1073741824 then 0 else 6)) /\ Dgo Z S W W' b va vb gv (dw cs most (if a.fr < 1073741824 then { a with fr := a.fr + 1 } else a)) := by
 have c4 : W.cell? ⟨b, 4, none⟩ = some (.int .i64 a.fr) := h.cell (j := 4) rfl
 have HH := hid h
 by_cases hlt : a.fr < 1073741824
 ·have NT := hid (zch h 9 0 0 0 0 0 0 0 none 0 0 0 a.fr)
  rw [if_pos hlt, if_pos hlt]
  clear h
  go_enter Tryz.func21, Tryz.ntmps21
  go_wp2_with fail
  refine NT.out.mono ?_
  rintro e w2 ⟨rfl, hb⟩
  have D2 := HH.out.grown hb
  have c42 : w2.cell? ⟨b, 4, none⟩ = some (.int .i64 a.fr) := D2.cell (j := 4) rfl
  have f42 := zac D2.box 4
  obtain ⟨q1, q2⟩ := D2.own (x' := dw cs most { a with fr := a.fr + 1 }) (lv' := lv) (gv' := gv) (j := 4) (v := .int .i64 (a.fr + 1)) rfl rfl (D2.rows D2.be) D2.nums D2.l64
  have FIN : Hid (Dgo Z S W (w2.setCell ⟨b, 4, none⟩ (.int .i64 (a.fr + 1))) b va vb gv (dw cs most { a with fr := a.fr + 1 })) := hid (Dgo.after hb ⟨⟨lv, q1.more (fun _ => zbr) fun y hy => by
   rcases hy with r | r
   ·exact q1.fin y r
   simp at r; omega⟩, q2⟩)
  have hw : IntKind.i64.wrap (a.fr + 1) = a.fr + 1 := Bd.zbn (by omega) (by omega)
  clear hb D2 q1 q2 NT c4
  go_wp2_with fail
  go_ret
  exact ⟨rfl, FIN.out⟩
 rw [if_neg hlt, if_neg hlt]
 clear h
 go_enter Tryz.func21, Tryz.ntmps21
 go_wp2_with fail
 go_ret
 exact ⟨rfl, Dgo.stay HH.out (Below.refl _ _)⟩
end
end Dw
namespace Dw
open Go.RowKit Go.Shelf Go.Maps
open Rs (Prt okL)
open Go.Proofs.YthadfdbkkmmgoaaGreatDoor.Or (Od doA zfb zhl runA zet stA)
open Co (I64)
open Wo (Bgs insB setB AP WK Wa pick zhm zdc)
structure okA (k : WK) (a : AP) : Prop where
 rise : Rise a.L
 low : ∀ p ∈ a.L, p.1 < a.n
 row : ∀ p ∈ a.L, okL k.ws p.2
 n1 : 1 <= a.n
theorem zic : ∀ (L : Bgs) (n : Int) (r : List Prt), (∀ p ∈ L, p.1 < n) -> insB (n, r) L = L ++ [(n, r)]
 | [], _, _, _ => rfl
 | x :: L, n, r, h => by
  have h1 := h x (by simp)
  unfold insB
  rw [if_neg (by show ¬ n < x.1; omega), zic L n r fun p hp => h p (by simp [hp])]
  rfl
theorem okA.few {k : WK} {a : AP} (h : okA k a) (hw : k.ws.length <= 16) : ∀ p ∈ a.L, p.2.length <= 100 := fun p hp => by
 have := Rs.zmo (h.row p hp) hw
 omega
theorem zrv {L : Bgs} {id : Int} {row : List Prt} (h : Wo.look L id = some row) : (id, row) ∈ L := List.mem_of_getElem? (zgs h).2.2
theorem z4z {k : WK} {a : AP} (h : okA k a) (id : Int) (r : List Prt) (hr : okL k.ws r) : okA k { a with L := setB a.L id r } := by
 refine ⟨?_, fun p hp => ?_, fun p hp => ?_, h.n1⟩
 ·show (setB a.L id r).Pairwise _
  unfold setB
  rw [List.pairwise_map]
  refine h.rise.imp fun {x y} q => ?_
  have e : ∀ x : Int × List Prt, (if x.1 = id then (id, r) else x).1 = x.1 := fun x => by by_cases e : x.1 = id <;> simp [e]
  rw [e, e]
  exact q
 ·obtain ⟨x, hx, rfl⟩ := List.mem_map.1 hp
  have := h.low x hx
  by_cases e : x.1 = id
  ·rw [if_pos e]; show id < a.n; omega
  rw [if_neg e]; exact this
 obtain ⟨x, hx, rfl⟩ := List.mem_map.1 hp
 by_cases e : x.1 = id
 ·rw [if_pos e]; exact hr
 rw [if_neg e]; exact h.row x hx
theorem okA.step {k : WK} {a : AP} (h : okA k a) (hk : k.ok) (hf : I64 a.fr) (y : Od) (hy : y.can k.x.cs.length = true) : okA k (doA k a y).2 := by
 unfold doA
 by_cases h1 : y.k = 1
 ·rw [if_pos h1]
  have hm : y.m < 2 ^ k.x.cs.length := by unfold Od.can at hy; rw [if_pos h1] at hy; simpa using hy
  have hc := zfb (fr := a.fr) hk rfl hm
  unfold AP.spawn
  rw [if_neg (by rw [hc]; decide)]
  by_cases hfull : k.most <= a.L.length
  ·rw [if_pos hfull]; exact h
  rw [if_neg hfull]
  have hs := (So.zzx hc fun p hp => by rw [zhl hm p hp]; exact hf).1
  have hn := h.n1
  refine ⟨?_, fun p hp => ?_, fun p hp => ?_, by show 1 <= a.n + 1; omega⟩
  ·show (insB _ _).Pairwise _
   rw [zic _ _ _ h.low, List.pairwise_append]
   exact ⟨h.rise, by simp, fun x hx z hz => by simp at hz; rw [hz]; exact h.low x hx⟩
  ·change p ∈ insB _ _ at hp
   rw [zic _ _ _ h.low, List.mem_append] at hp
   show p.1 < a.n + 1
   rcases hp with hp | hp
   ·have := h.low p hp; omega
   simp at hp; rw [hp]; show a.n < a.n + 1; omega
  change p ∈ insB _ _ at hp
  rw [zic _ _ _ h.low, List.mem_append] at hp
  rcases hp with hp | hp
  ·exact h.row p hp
  simp at hp; rw [hp]; exact hs
 rw [if_neg h1]
 by_cases h2 : y.k = 2
 ·rw [if_pos h2]
  unfold AP.zct
  cases hl : Wo.look a.L y.id with
  | none => exact h
  | some row =>
   refine ⟨List.Pairwise.filter _ h.rise, fun p hp => h.low p (List.mem_filter.1 hp).1, fun p hp => h.row p (List.mem_filter.1 hp).1, h.n1⟩
 rw [if_neg h2]
 by_cases h3 : y.k = 3
 ·rw [if_pos h3]
  unfold AP.insert
  cases hl : Wo.look a.L y.id with
  | none => exact h
  | some row =>
   simp only
   cases hc : zhm k.x.cs y.c with
   | none => exact h
   | some c =>
    simp only
    cases hp : pick row y.c with
    | some q => exact h
    | none =>
     obtain ⟨m, e, hm⟩ := zdc hc
     refine z4z h _ _ ((h.row _ (zrv hl)).ins ?_ (Wo.zjy hp))
     rw [e]
     exact hk.wd m c hm a.fr
 rw [if_neg h3]
 unfold AP.zbq
 cases hl : Wo.look a.L y.id with
 | none => exact h
 | some row =>
  simp only
  cases hp : pick row y.c with
  | none => exact h
  | some q => exact z4z h _ _ ((h.row _ (zrv hl)).rem _)
theorem okA.run {k : WK} {a : AP} (h : okA k a) (hk : k.ok) (hf : I64 a.fr) (L : List Od) (hL : ∀ y ∈ L, y.can k.x.cs.length = true) : ∀ q, q <= L.length -> okA k (runA k a (L.take q)).a /\ (runA k a (L.take q)).a.fr = a.fr
 | 0, _ => ⟨h, rfl⟩
 | q + 1, hq => by
  obtain ⟨ih, ihf⟩ := okA.run h hk hf L hL q (by omega)
  obtain ⟨y, hy⟩ := zal L q (by omega)
  rw [zet hy]
  have e : (stA k (runA k a (L.take q)) y).a = (doA k (runA k a (L.take q)).a y).2 := by unfold stA; split <;> rfl
  rw [e]
  exact ⟨ih.step hk (by rw [ihf]; exact hf) y (hL y (List.mem_of_getElem? hy)), by rw [(Or.yab k _ y).2.2, ihf]⟩
theorem okA.of {B : Nat} {G : Wo.Own} {W : World} {wb : Nat} {k : WK} {t : Nat} {a : AP} (h : Wa B G W wb k t a) : okA k a := by
 obtain ⟨p, hd, -, hws, -, hL, hn, -⟩ := id h.ex
 have hok := hd.z.ok
 have hlow : ∀ q ∈ a.L, 1 <= q.1 /\ q.1 < a.n := fun q hq => by
  rw [<- hL] at hq
  obtain ⟨x, hx, rfl⟩ := List.mem_map.1 hq
  rw [<- hn]
  exact hok.low x hx
 refine ⟨?_, fun q hq => (hlow q hq).2, fun q hq => ?_, by rw [<- hn]; exact hok.next.1⟩
 ·show a.L.Pairwise _
  rw [<- hL]
  unfold Wo.zat
  rw [List.pairwise_map]
  exact hok.rise
 obtain ⟨j, hj⟩ := List.getElem?_of_mem hq
 obtain ⟨p, i, g, s⟩ := h.stands (h.who (id := q.1) (row := q.2) hj).1
 obtain ⟨c, q1, q2, q3⟩ := s.d.z.st
 obtain ⟨n, j, m, own, y, A⟩ := q1.stands s.al (by simp)
 have r := A.ok.1
 rw [s.at', s.ws] at r
 exact r
theorem ybx {B : Nat} {G : Wo.Own} {W : World} {wb : Nat} {k : WK} {t : Nat} {a : AP} (h : Wa B G W wb k t a) : k.ws.length <= 16 := by
 obtain ⟨p, hd, -, hws, -⟩ := id h.ex
 obtain ⟨c, q1, q2, q3⟩ := hd.z.st
 rw [<- hws]
 exact q1.okw.1
end Dw
namespace Dw
open Go.RowKit Go.Shelf Go.Maps
open At (St zaa zab)
open Sc (zah)
open Go.Proofs.YthadfdbkkmmgoaaGreatDoor.Or (Od Ods OP)
def ubox (va vb lv : Value) (x : OP) : Array Value := #[va, vb, .int .i64 x.most, lv, .int .i64 x.gv, .int .i64 x.dr]
structure Du (Z : World) (S : Nat -> Prop) (W : World) (b : Nat) (va vb lv : Value) (x : OP) : Prop where
 box : W.heap[b]? = some (.cells (ubox va vb lv x) 62 (0, 0))
 inb : S b
 fin : ∀ y, S y -> Z.heap.size <= y /\ y < W.heap.size
 kin : zah Z va x.cs
 bel : Below Z.heap.size Z W
 few : x.cs.length <= 16
 row : Ods 0 W lv x.L
 own : ∀ y, lv.ownBlock = some y -> S y
section
variable {Z : World} {S S' T : Nat -> Prop} {W W' : World} {b : Nat} {va vb lv : Value} {x : OP}
theorem Du.cell (h : Du Z S W b va vb lv x) {j : Nat} {v : Value} (hj : (ubox va vb lv x)[j]? = some v) : W.cell? ⟨b, j, none⟩ = some v := zaa h.box hj
theorem Du.cmp (h : Du Z S W b va vb lv x) : zah W va x.cs := h.kin.later h.bel
theorem Du.slice (h : Du Z S W b va vb lv x) : ∃ a c, lv = .slice a x.L.length c := h.row.slice
theorem Du.later (h : Du Z S W b va vb lv x) (hb : Below W.heap.size W W') : Du Z S W' b va vb lv x :=
 ⟨zab hb (Nat.le_refl _) h.box, h.inb, fun y hy => ⟨(h.fin y hy).1, Nat.lt_of_lt_of_le (h.fin y hy).2 hb.size⟩, h.kin, h.bel.trans (hb.mono h.bel.size), h.few, h.row.later hb, h.own⟩
theorem Du.more (h : Du Z S W b va vb lv x) (hS : ∀ y, S y -> S' y) (hf : ∀ y, S' y -> Z.heap.size <= y /\ y < W.heap.size) : Du Z S' W b va vb lv x :=
 ⟨h.box, hS _ h.inb, hf, h.kin, h.bel, h.few, h.row, fun y hy => hS y (h.own y hy)⟩
theorem Du.grown (h : Du Z S W b va vb lv x) (hb : Below W.heap.size W W') : Du Z (win S W W') W' b va vb lv x :=
 (h.later hb).more (fun _ => zbr) fun y hy => by
  rcases hy with q | q
  ·exact (h.later hb).fin y q
  have := h.bel.size
  omega
theorem Du.kept (h : Du Z S W b va vb lv x) (hs : St T W W') (hT : ∀ y, S y -> ¬ T y) (hz : ∀ y, T y -> Z.heap.size <= y) : Du Z S W' b va vb lv x :=
 ⟨hs.at h.box (hT b h.inb), h.inb, fun y hy => ⟨(h.fin y hy).1, Nat.lt_of_lt_of_le (h.fin y hy).2 hs.size⟩, h.kin, h.bel.trans (hs.below hz h.bel.size), h.few, h.row.kept hs fun y hy => hT y (h.own y hy), h.own⟩
theorem Du.rows {j : Nat} {v lv' : Value} {L' : List Od} (h : Du Z S W b va vb lv x) (hl : Ods 0 W lv' L') : Ods 0 (W.setCell ⟨b, j, none⟩ v) lv' L' := by
 have st : St (fun y => y = b) W (W.setCell ⟨b, j, none⟩ v) := St.setCell _ rfl
 refine hl.kept st fun y hy e => ?_
 obtain ⟨c, q⟩ := So.zbd hl hy
 rw [e, h.box] at q
 simp at q
theorem Du.set {x' : OP} {lv' : Value} {j : Nat} {v : Value} (h : Du Z S W b va vb lv x) (hb : (ubox va vb lv x).setIfInBounds j v = ubox va vb lv' x') (e1 : x'.cs = x.cs) (hl : Ods 0 W lv' x'.L) (ho : ∀ y, lv'.ownBlock = some y -> S y) :
  Du Z S (W.setCell ⟨b, j, none⟩ v) b va vb lv' x' /\ St (fun y => y = b) W (W.setCell ⟨b, j, none⟩ v) := by
 have st : St (fun y => y = b) W (W.setCell ⟨b, j, none⟩ v) := St.setCell _ rfl
 refine ⟨⟨by rw [heap_setCell_same W b j _ _ v h.box, hb], h.inb, fun y hy => ⟨(h.fin y hy).1, Nat.lt_of_lt_of_le (h.fin y hy).2 st.size⟩, by rw [e1]; exact h.kin, h.bel.trans (st.below (fun y e => by rw [e]; exact (h.fin b h.inb).1) h.bel.size), by rw [e1]; exact h.few, h.rows hl, ho⟩, st⟩
def Ugo (Z : World) (S : Nat -> Prop) (W W' : World) (b : Nat) (va vb : Value) (x' : OP) : Prop := (∃ lv', Du Z (win S W W') W' b va vb lv' x') /\ St (fun y => y = b) W W'
theorem Ugo.stay (h : Du Z S W b va vb lv x) (hb : Below W.heap.size W W') : Ugo Z S W W' b va vb x := ⟨⟨lv, h.grown hb⟩, St.of_below hb⟩
theorem Ugo.after {W2 : World} {x' : OP} (hb : Below W.heap.size W W') (h : Ugo Z (win S W W') W' W2 b va vb x') : Ugo Z S W W2 b va vb x' := by
 obtain ⟨⟨lv', h1⟩, h2⟩ := h
 have w := zjm S W W' W2 hb.size h2.size
 exact ⟨⟨lv', h1.more (fun y hy => (w y).1 hy) fun y hy => h1.fin y ((w y).2 hy)⟩, (St.of_below (S := fun y => y = b) hb).trans h2 fun _ _ q => q⟩
theorem Ugo.then {W1 W2 : World} {x' : OP} (h1 : St (fun y => y = b) W W1) (h2 : Ugo Z (win S W W1) W1 W2 b va vb x') : Ugo Z S W W2 b va vb x' := by
 obtain ⟨⟨lv', q⟩, s⟩ := h2
 have w := zjm S W W1 W2 h1.size s.size
 exact ⟨⟨lv', q.more (fun y hy => (w y).1 hy) fun y hy => q.fin y ((w y).2 hy)⟩, h1.trans s fun _ _ q => q⟩
theorem Ugo.write {W1 : World} {x' : OP} {lv' : Value} {j : Nat} {v : Value} (h : Du Z S W b va vb lv x) (hb1 : Below W.heap.size W W1) (hb : (ubox va vb lv x).setIfInBounds j v = ubox va vb lv' x') (e1 : x'.cs = x.cs) (hl : Ods 0 W1 lv' x'.L) (ho : ∀ y, lv'.ownBlock = some y -> win S W W1 y) : Ugo Z S W (W1.setCell ⟨b, j, none⟩ v) b va vb x' := by
 obtain ⟨q1, q2⟩ := (h.grown hb1).set hb e1 hl ho
 refine Ugo.after hb1 ⟨⟨lv', q1.more (fun _ => zbr) fun y hy => ?_⟩, q2⟩
 rcases hy with r | r
 ·exact q1.fin y r
 have e : (W1.setCell ⟨b, j, none⟩ v).heap.size = W1.heap.size := by simp
 omega
end
end Dw
namespace Dw
open Go.RowKit Go.Shelf Go.Maps
open At (St bAl zaa zab zac)
open Go.Proofs.YthadfdbkkmmgoaaGreatDoor.Or (Od Ods OP zbw zea ziu)
theorem z1d (m n : Nat) : ((m : Int) / 2 ^ n == 0) = decide (m < 2 ^ n) := by
 have e : (m : Int) / 2 ^ n = ((m / 2 ^ n : Nat) : Int) := by simp
 rw [e]
 by_cases h : m < 2 ^ n
 ·rw [Nat.div_eq_of_lt h]; simp [h]
 have : 0 < m / 2 ^ n := Nat.div_pos (by omega) (Nat.two_pow_pos n)
 have h2 : ¬ (((m / 2 ^ n : Nat) : Int) = 0) := by omega
 simp only [h, decide_false]
 exact beq_eq_false_iff_ne.2 h2
theorem zpc {w : World} (base : Nat) (t ty e : TypeId) (i : TypeInfo) (size : Nat) (ht : Tryz.prog.underlying t = some (.slice e)) (hi : Tryz.prog.info? e = some i)
  (v : Value) (n c : Nat) (xs : List Value) (hown : w.ownsRow base e size v n xs) :
  (Builtin.append_ #[t, t] ty #[v, .slice none 0 c]).run Tryz.prog w = .ok v w := by
 rcases hown.2 with ⟨rfl, rfl⟩ | ⟨g, cap, cur, rfl, _, _, hnc, _⟩
 ·simp [Builtin.append_, run_underlying ht, sizeOf, typeInfo, hi, Builtin.lenOf, Builtin.firstCells]
 simp [Builtin.append_, run_underlying ht, sizeOf, typeInfo, hi, Builtin.lenOf, Builtin.firstCells, hnc, storeCells]
theorem zlm {ops : Array Oper} {o : Oper} {a : Act} {K : Act -> World -> Prop} {Q : Exit -> Act -> World -> Prop} {E : Prop} (hgd : o.guard = none) (s x : Operand)
  (ho : o.op = .call { callee := .builtin .append, args := #[s, x], argTypes := #[60, 60] }) {B : Nat} {w0 wc : World} {sv : Value} {l : List Od} {eb : Nat} (hr : Ods B w0 sv l) (hb : Below w0.heap.size w0 wc) (hd : Ods w0.heap.size wc (.slice (some ⟨eb, 0, none⟩) 0 0) []) (hn : l.length <= 1000)
  (hs : a.eval s = .slice (some ⟨eb, 0, none⟩) 0 0) (hx : a.eval x = sv)
  (h : ∀ a1 c1 w', Hid (Ods w0.heap.size w' (.slice a1 l.length c1) l /\ Below w0.heap.size w0 w' /\ St (fun k => k = eb) wc w') -> K (a.put o.dst (.slice a1 l.length c1)) w') :
  if Region.wanted o (yielded ops a.tmps) = true then Oper.wp Tryz.prog o a wc K Q else E := by
 obtain ⟨i0, hi, hz0, hz1, hz2⟩ := info_parts ziu
 have hw : Region.wanted o (yielded ops a.tmps) = true := by simp [Region.wanted, hgd]
 have hrc : Ods B wc sv l := hr.later hb
 have H1 : ∀ u ∈ zbw l, u.oneCell' = true := fun u hu => by
  obtain ⟨c, -, q⟩ := List.mem_flatMap.1 hu
  simp [Od.arr] at q
  rcases q with rfl | rfl | rfl | rfl <;> rfl
 have key : ∃ v' w', (Builtin.append_ #[60, 60] o.type #[.slice (some ⟨eb, 0, none⟩) 0 0, sv]).run Tryz.prog wc = .ok v' w' /\ Ods w0.heap.size w' v' l /\ St (fun k => k = eb) wc w' := by
  rcases hrc.2 with ⟨rfl, q⟩ | ⟨g2, cap, cur, rfl, h2, h3, h4, h5, h6, h7⟩
  ·obtain rfl : l = [] := List.length_eq_zero_iff.1 q
   exact ⟨_, _, zpc w0.heap.size _ _ _ i0 4 Tryz.underlying60 hi _ 0 0 [] hd, hd, St.refl _ _⟩
  obtain ⟨v', w', hrn, h8, h9, -, -⟩ := run_append_own_at (P := Tryz.prog) wc w0.heap.size 60 o.type 48 i0 _ 4 32 Tryz.underlying60 hi hz0 hz1 hz2 rfl (by decide) _ 0 [] hd ⟨g2, 0, none⟩ l.length cap (zbw l) (zea l) (fun j u hu => by
   rw [zbx]
   have hj := (List.getElem?_eq_some_iff.1 hu).1
   rw [zea] at hj
   rw [World.ownsRow.cellAt hrc j hj]
   exact hu) H1 (by unfold maxLen; omega) (by omega) hb.size
  rw [Nat.zero_add, List.nil_append] at h8
  exact ⟨v', w', hrn, h8, St.zam h9 fun k hk => by simpa [Value.ownBlock] using hk.symm⟩
 obtain ⟨v', w', hrun, h2, h3⟩ := key
 obtain ⟨a1, c1, rfl⟩ := h2.slice
 rw [if_pos hw]
 unfold Oper.wp execOp
 simp only [ho, resolve, invoke, builtin, Sem.run_bind, Sem.run_pure, Result.andThen_ok, List.map_toArray, List.map_cons, List.map_nil, hs, hx, hrun]
 have heb := (hd.lt eb rfl).1
 exact h a1 c1 w' ⟨h2, hb.trans (h3.below (fun k q => by omega) hb.size), h3⟩
theorem zsf {ops : Array Oper} {o : Oper} {a : Act} {K : Act -> World -> Prop} {Q : Exit -> Act -> World -> Prop} {E : Prop} (hgd : o.guard = none) (s x : Operand)
  (ho : o.op = .call { callee := .builtin .append, args := #[s, x], argTypes := #[60, 60] }) {w0 wc : World} {yb : Nat} {v : Value} {l : List Od} {p : Od} (hrc : Ods w0.heap.size wc v l) (hbc : Below w0.heap.size w0 wc) (hpb : wc.heap[yb]? = some (.cells #[.int .i64 p.k, .int .i64 p.id, .int .u32 (p.m : Int), .int .i64 p.c] 48 (0, 0))) (hn : l.length <= 1000)
  (hs : a.eval s = v) (hx : a.eval x = .slice (some ⟨yb, 0, none⟩) 1 1)
  (h : ∀ g cap w2, Hid (Ods w0.heap.size w2 (.slice (some ⟨g, 0, none⟩) (l.length + 1) cap) (l ++ [p]) /\ Below w0.heap.size w0 w2) -> K (a.put o.dst (.slice (some ⟨g, 0, none⟩) (l.length + 1) cap)) w2) :
  if Region.wanted o (yielded ops a.tmps) = true then Oper.wp Tryz.prog o a wc K Q else E := by
 obtain ⟨i0, hi, hz0, hz1, hz2⟩ := info_parts ziu
 refine step_append_lies _ hgd s x 60 ho w0.heap.size 48 i0 (.agg #[.int .i64 0, .int .i64 0, .int .u32 0, .int .i64 0]) 4 32 Tryz.underlying60 hi hz0 hz1 hz2 rfl (by decide) v l.length (zbw l) hs hrc ⟨yb, 0, none⟩ 1 1 p.arr.toList hx rfl (fun j u hu => by
  rw [zbx]
  exact zaa hpb (by simpa [Od.arr] using hu)) (by intro u hu; simp [Od.arr] at hu; rcases hu with rfl | rfl | rfl | rfl <;> rfl) (by decide) (by unfold maxLen; omega) (by omega) hbc.size wc.heap.size rfl ?_
 intro g' cap w2 ow hg hat hlt
 have st : St (fun x => v.ownBlock = some x) wc w2 := St.zam (S := fun x => v.ownBlock = some x) hg fun k e => e
 refine h g' cap w2 ⟨?_, hbc.trans (st.below (fun k q => (hrc.lt k q).1) hbc.size)⟩
 show World.ownsRow _ _ _ _ _ _ _
 rw [Or.zio, List.length_append]
 exact ow
theorem zuv (w : World) (y : Od) : Below w.heap.size w (w.alloc (.cells #[] 48)) /\ Below w.heap.size w ((w.alloc (.cells #[] 48)).alloc (.cells #[.int .i64 y.k, .int .i64 y.id, .int .u32 (y.m : Int), .int .i64 y.c] 48)) /\ Below w.heap.size w ((w.alloc (.cells #[.int .i64 y.k, .int .i64 y.id, .int .u32 (y.m : Int), .int .i64 y.c] 48)).alloc (.cells #[] 48)) ∧
  Ods w.heap.size (w.alloc (.cells #[] 48)) (.slice (some ⟨w.heap.size, 0, none⟩) 0 0) [] /\ Ods w.heap.size ((w.alloc (.cells #[] 48)).alloc (.cells #[.int .i64 y.k, .int .i64 y.id, .int .u32 (y.m : Int), .int .i64 y.c] 48)) (.slice (some ⟨w.heap.size, 0, none⟩) 0 0) [] /\ Ods w.heap.size ((w.alloc (.cells #[.int .i64 y.k, .int .i64 y.id, .int .u32 (y.m : Int), .int .i64 y.c] 48)).alloc (.cells #[] 48)) (.slice (some ⟨w.heap.size + 1, 0, none⟩) 0 0) [] ∧
  ((w.alloc (.cells #[] 48)).alloc (.cells #[.int .i64 y.k, .int .i64 y.id, .int .u32 (y.m : Int), .int .i64 y.c] 48)).heap[w.heap.size + 1]? = some (.cells #[.int .i64 y.k, .int .i64 y.id, .int .u32 (y.m : Int), .int .i64 y.c] 48 (0, 0)) ∧
  ((w.alloc (.cells #[.int .i64 y.k, .int .i64 y.id, .int .u32 (y.m : Int), .int .i64 y.c] 48)).alloc (.cells #[] 48)).heap[w.heap.size]? = some (.cells #[.int .i64 y.k, .int .i64 y.id, .int .u32 (y.m : Int), .int .i64 y.c] 48 (0, 0)) := by
 obtain ⟨p1, -, p3⟩ := Rs.zde w #[] #[.int .i64 y.k, .int .i64 y.id, .int .u32 (y.m : Int), .int .i64 y.c] 48 48
 obtain ⟨q1, q2, -⟩ := Rs.zde w #[.int .i64 y.k, .int .i64 y.id, .int .u32 (y.m : Int), .int .i64 y.c] #[] 48 48
 refine ⟨bAl _ _, p1, q1, Or.zln w, (Or.zln w).later (bAl _ _), ?_, p3, q2⟩
 have e := Or.zln (w.alloc (.cells #[.int .i64 y.k, .int .i64 y.id, .int .u32 (y.m : Int), .int .i64 y.c] 48))
 rw [World.size_alloc] at e
 exact e.lower (by omega)
def addU (x : OP) (y : Od) : Nat × OP := if y.can x.cs.length then (if x.most <= x.gv then (6, { x with dr := x.dr + 1 }) else (0, { x with L := x.L ++ [y], gv := x.gv + 1 })) else (1, x)
section
variable {Z : World} {S S' T : Nat -> Prop} {W W' : World} {b : Nat} {va vb lv : Value} {x : OP}
set_option maxRecDepth 100000 in
theorem z2m (h : Du Z S W b va vb lv x) (y : Od) (hl : x.L.length < 900) (hg : 0 <= x.gv /\ x.gv <= 64) (hd : 0 <= x.dr /\ x.dr <= 1000000) :
  Calls Tryz.prog 16 #[.pointer (some ⟨b, 0, none⟩), .agg #[.int .i64 y.k, .int .i64 y.id, .int .u32 (y.m : Int), .int .i64 y.c]] W fun e W' => e = .returned (.int .i64 (((addU x y).1 : Nat) : Int)) /\ Ugo Z S W W' b va vb (addU x y).2 := by
 obtain ⟨wa, hwa⟩ : ∃ wa, wa = W.alloc (.cells #[.int .i64 y.k, .int .i64 y.id, .int .u32 (y.m : Int), .int .i64 y.c] 48) := ⟨_, rfl⟩
 have ba : Below W.heap.size W wa := by rw [hwa]; exact bAl _ _
 have ra : wa.heap[W.heap.size]? = some (.cells #[.int .i64 y.k, .int .i64 y.id, .int .u32 (y.m : Int), .int .i64 y.c] 48 (0, 0)) := by rw [hwa]; exact heap_alloc_new W _
 obtain ⟨ka, kc, hva, -, -⟩ := h.cmp
 subst hva
 have c0 : wa.cell? ⟨b, 0, none⟩ = some (.slice ka x.cs.length kc) := (h.later ba).cell (j := 0) rfl
 have y0 : wa.cell? ⟨W.heap.size, 0, none⟩ = some (.int .i64 y.k) := zaa ra rfl
 have y1 : wa.cell? ⟨W.heap.size, 1, none⟩ = some (.int .i64 y.id) := zaa ra rfl
 have y2 : wa.cell? ⟨W.heap.size, 2, none⟩ = some (.int .u32 (y.m : Int)) := zaa ra rfl
 have y3 : wa.cell? ⟨W.heap.size, 3, none⟩ = some (.int .i64 y.c) := zaa ra rfl
 have hcl : (x.cs.length : Int) <= 16 := by have := h.few; omega
 have HH := hid h
 have BA := hid ba
 have RA := hid ra
 have HWA := hid hwa
 have SZ := z1d y.m x.cs.length
 obtain ⟨cn, hcn⟩ : ∃ cn, cn = y.can x.cs.length := ⟨_, rfl⟩
 have CN := hid hcn
 unfold Od.can at hcn
 clear h ba ra hwa
 go_enter Tryz.func16, Tryz.ntmps16
 go_upto_region 1 with fail
 rw [<- HWA.out]
 clear HWA
 go_upto_block 0 with fail
 go_cut [6] (fun s6 wx => s6 = .bool cn /\ wx = wa)
 case first =>
  have B : ∀ c : Int, (y.k == c) = decide (y.k = c) := fun c => rfl
  by_cases h1 : y.k = 1
  ·rw [if_pos h1, <- SZ] at hcn
   have hlz : ¬ ((x.cs.length : Int) < 0) := by omega
   have b1 : (y.k == 1) = true := by simp [h1]
   have b2 : (y.k == 2) = false := by simp [h1]
   clear h1 CN B SZ
   subst hcn
   go_wp2_with fail
   go_meet
   exact ⟨rfl, rfl⟩
  rw [if_neg h1] at hcn
  have b1 : (y.k == 1) = false := by simp [h1]
  clear SZ
  by_cases h3 : y.k = 3
  ·rw [if_pos (.inl h3)] at hcn
   have b2 : (y.k == 2) = false := by simp [h3]
   have b3 : (y.k == 3) = true := by simp [h3]
   by_cases h0 : 0 <= y.c
   ·rw [decide_eq_true h0, Bool.true_and] at hcn
    clear h1 h3 CN B
    subst hcn
    go_wp2_with fail
    go_meet
    exact ⟨rfl, rfl⟩
   rw [decide_eq_false h0, Bool.false_and] at hcn
   clear h1 h3 CN B
   subst hcn
   go_wp2_with fail
   go_meet
   exact ⟨rfl, rfl⟩
  have b3 : (y.k == 3) = false := by simp [h3]
  by_cases h4 : y.k = 4
  ·rw [if_pos (.inr h4)] at hcn
   have b2 : (y.k == 2) = false := by simp [h4]
   have b4 : (y.k == 4) = true := by simp [h4]
   by_cases h0 : 0 <= y.c
   ·rw [decide_eq_true h0, Bool.true_and] at hcn
    clear h1 h3 h4 CN B
    subst hcn
    go_wp2_with fail
    go_meet
    exact ⟨rfl, rfl⟩
   rw [decide_eq_false h0, Bool.false_and] at hcn
   clear h1 h3 h4 CN B
   subst hcn
   go_wp2_with fail
   go_meet
   exact ⟨rfl, rfl⟩
  rw [if_neg (fun q => q.elim h3 h4)] at hcn
  have b4 : (y.k == 4) = false := by simp [h4]
  have b2 : (y.k == 2) = cn := hcn.symm
  clear h1 h3 h4 CN B hcn
  go_wp2_with fail
  go_meet
  exact ⟨by rw [b2], rfl⟩
 case rest =>
  rename World => wx
  obtain ⟨rfl, rfl⟩ := hcut
  clear SZ hcn c0
  cases cn with
  | false =>
   have E : addU x y = (1, x) := by unfold addU; rw [<- CN.out]; rfl
   go_wp2_with fail
   go_ret
   rw [E]
   exact ⟨rfl, Ugo.stay HH.out BA.out⟩
  | true =>
   have c4 : wx.cell? ⟨b, 4, none⟩ = some (.int .i64 x.gv) := (HH.out.later BA.out).cell (j := 4) rfl
   have c2 : wx.cell? ⟨b, 2, none⟩ = some (.int .i64 x.most) := (HH.out.later BA.out).cell (j := 2) rfl
   by_cases hf : x.most <= x.gv
   ·have E : addU x y = (6, { x with dr := x.dr + 1 }) := by unfold addU; rw [<- CN.out, if_pos rfl, if_pos hf]
    have c5 : wx.cell? ⟨b, 5, none⟩ = some (.int .i64 x.dr) := (HH.out.later BA.out).cell (j := 5) rfl
    have f5 := zac (HH.out.later BA.out).box 5
    have hw : IntKind.i64.wrap (x.dr + 1) = x.dr + 1 := Bd.zbn (by omega) (by omega)
    have hfd : decide (x.most <= x.gv) = true := by simp [hf]
    have FIN : Hid (∀ n, Ugo Z S W ((wx.drewN n).setCell ⟨b, 5, none⟩ (.int .i64 (x.dr + 1))) b (.slice ka x.cs.length kc) vb { x with dr := x.dr + 1 }) := hid fun n => by
     have bn := BA.out.trans ((At.zad wx n).mono BA.out.size)
     exact Ugo.write HH.out bn rfl rfl (HH.out.row.later bn) fun z hz => zbr (HH.out.own z hz)
    go_wp2_with fail
    go_quiet (fail)
    go_wp2_with fail
    go_ret
    rw [E]
    exact ⟨rfl, FIN.out _⟩
   have E : addU x y = (0, { x with L := x.L ++ [y], gv := x.gv + 1 }) := by unfold addU; rw [<- CN.out, if_pos rfl, if_neg hf]
   have hfd : decide (x.most <= x.gv) = false := by simp; omega
   have hw : IntKind.i64.wrap (x.gv + 1) = x.gv + 1 := Bd.zbn (by omega) (by omega)
   have c4f := zac (HH.out.later BA.out).box 4
   have HL := hid hl
   clear hd
   go_wp2_with fail
   go_quiet (fail)
   go_upto_region 15 with fail
   have bn := BA.out.trans ((At.zad wx nq).mono BA.out.size)
   have D4 := HH.out.grown bn
   obtain ⟨q1, q2⟩ := D4.set (x' := { x with gv := x.gv + 1 }) (lv' := lv) (j := 4) (v := .int .i64 (x.gv + 1)) rfl rfl D4.row D4.own
   have st5 : St (fun z => z = b) W ((wx.drewN nq).setCell ⟨b, 4, none⟩ (.int .i64 (x.gv + 1))) := (St.of_below (S := fun z => z = b) bn).trans q2 fun _ _ q => q
   have hbb : b < W.heap.size := (HH.out.fin b HH.out.inb).2
   have ry : ((wx.drewN nq).setCell ⟨b, 4, none⟩ (.int .i64 (x.gv + 1))).heap[W.heap.size]? = some (.cells #[.int .i64 y.k, .int .i64 y.id, .int .u32 (y.m : Int), .int .i64 y.c] 48 (0, 0)) := q2.at (zab (At.zad wx nq) (Nat.le_refl _) RA.out) (by omega)
   obtain ⟨w5, hw5⟩ : ∃ w5, w5 = (wx.drewN nq).setCell ⟨b, 4, none⟩ (.int .i64 (x.gv + 1)) := ⟨_, rfl⟩
   have D5 : Hid (Du Z (win S W w5) w5 b (.slice ka x.cs.length kc) vb lv { x with gv := x.gv + 1 }) := hid (by
    have es : w5.heap.size = (wx.drewN nq).heap.size := by rw [hw5]; simp
    rw [<- hw5] at q1
    unfold win at q1 ⊢
    rw [es]
    exact q1)
   rw [<- hw5] at st5 ry
   rw [<- hw5]
   have ST5 := hid st5
   have RY := hid ry
   obtain ⟨la, lc, hlv⟩ := HH.out.row.slice
   have C3 : Hid (∀ w, Below w5.heap.size w5 w -> w.cell? ⟨b, 3, none⟩ = some (.slice la x.L.length lc) /\ w.frozen? ⟨b, 3, none⟩ = false /\ w.cell? ⟨W.heap.size, 0, none⟩ = some (.int .i64 y.k) /\ w.cell? ⟨W.heap.size, 1, none⟩ = some (.int .i64 y.id) /\ w.cell? ⟨W.heap.size, 2, none⟩ = some (.int .u32 (y.m : Int)) /\ w.cell? ⟨W.heap.size, 3, none⟩ = some (.int .i64 y.c)) := hid fun w hb => by
    have r := zab hb (Nat.le_refl _) RY.out
    exact ⟨by rw [<- hlv]; exact (D5.out.later hb).cell (j := 3) rfl, zac (D5.out.later hb).box 3, zaa r rfl, zaa r rfl, zaa r rfl, zaa r rfl⟩
   have RW : Hid (Ods 0 w5 (.slice la x.L.length lc) x.L) := hid (hlv ▸ D5.out.row)
   have FIN : Hid (∀ g cap w9, Hid (Ods w5.heap.size w9 (.slice (some ⟨g, 0, none⟩) (x.L.length + 1) cap) (x.L ++ [y]) /\ Below w5.heap.size w5 w9) -> Ugo Z S W (w9.setCell ⟨b, 3, none⟩ (.slice (some ⟨g, 0, none⟩) (x.L.length + 1) cap)) b (.slice ka x.cs.length kc) vb { x with L := x.L ++ [y], gv := x.gv + 1 }) := hid fun g cap w9 hq => by
    have r := Ugo.write (x' := { x with L := x.L ++ [y], gv := x.gv + 1 }) (lv' := .slice (some ⟨g, 0, none⟩) (x.L.length + 1) cap) (j := 3) (v := .slice (some ⟨g, 0, none⟩) (x.L.length + 1) cap) D5.out hq.out.2 rfl rfl (hq.out.1.lower (Nat.zero_le _)) (fun z hz => .inr (by have := hq.out.1.lt z hz; exact this))
    exact Ugo.then ST5.out r
   have hl9 : x.L.length <= 1000 := by have := HL.out; omega
   clear hw5 q1 q2 D4 bn st5 ry c2 c4 c4f y0 y1 y2 y3 BA RA RY D5 HH hlv
   obtain ⟨c3, f3, y0, y1, y2, y3⟩ := C3.out w5 (Below.refl _ _)
   obtain ⟨e3, g3, z0, z1, z2, z3⟩ := C3.out (w5.alloc (.cells #[] 48)) (bAl _ _)
   obtain ⟨X1, X2, X3, D1, D2, D3, Y2, Y3⟩ := zuv w5 y
   obtain ⟨ea3, ga3, za0, za1, za2, za3⟩ := C3.out _ X2
   obtain ⟨eb3, gb3, zb0, zb1, zb2, zb3⟩ := C3.out _ X3
   obtain ⟨ec3, gc3, zc0, zc1, zc2, zc3⟩ := C3.out _ (bAl w5 (.cells #[.int .i64 y.k, .int .i64 y.id, .int .u32 (y.m : Int), .int .i64 y.c] 48))
   go_region_law (first
    | (refine zlm (w0 := w5) (eb := w5.heap.size) rfl _ _ rfl RW.out (by first | exact X1 | exact X1.drew) (by first | exact D1 | exact D1.later (Below.refl _ _).drew) hl9 rfl rfl ?_; intro a6 c6 w6 h6; obtain ⟨m3, n3, t0, t1, t2, t3⟩ := C3.out w6 h6.out.2.1)
    | (refine zlm (w0 := w5) (eb := w5.heap.size) rfl _ _ rfl RW.out (by first | exact X2 | exact X2.drew | exact X2.drew.drew) (by first | exact D2 | exact D2.later (Below.refl _ _).drew | exact D2.later (Below.refl _ _).drew.drew) hl9 rfl rfl ?_; intro a6 c6 w6 h6; obtain ⟨m3, n3, t0, t1, t2, t3⟩ := C3.out w6 h6.out.2.1; have hy6 := h6.out.2.2.at Y2 (by omega))
    | (refine zlm (w0 := w5) (eb := w5.heap.size + 1) rfl _ _ rfl RW.out (by first | exact X3 | exact X3.drew | exact X3.drew.drew) (by first | exact D3 | exact D3.later (Below.refl _ _).drew | exact D3.later (Below.refl _ _).drew.drew) hl9 rfl rfl ?_; intro a6 c6 w6 h6; obtain ⟨m3, n3, t0, t1, t2, t3⟩ := C3.out w6 h6.out.2.1; have hy6 := h6.out.2.2.at Y3 (by omega))
    | (refine zsf (w0 := w5) (yb := w6.heap.size) (p := y) rfl _ _ rfl (by first | exact h6.out.1.later (bAl _ _) | exact h6.out.1.later (bAl _ _).drew) (by first | exact h6.out.2.1.trans ((bAl _ _).mono h6.out.2.1.size) | exact h6.out.2.1.trans ((bAl _ _).drew.mono h6.out.2.1.size)) (by first | exact heap_alloc_new _ _) hl9 rfl rfl ?_; intro g9 cap9 w9 h9; obtain ⟨p3, k3, -, -, -, -⟩ := C3.out w9 h9.out.2)
    | (refine zsf (w0 := w5) (p := y) rfl _ _ rfl (by first | exact h6.out.1 | exact h6.out.1.later (Below.refl _ _).drew) (by first | exact h6.out.2.1 | exact h6.out.2.1.drew) (by first | exact hy6) hl9 rfl rfl ?_; intro g9 cap9 w9 h9; obtain ⟨p3, k3, -, -, -, -⟩ := C3.out w9 h9.out.2))
   all_goals
    have FN := hid (FIN.out _ _ _ h9)
    go_wp2_with fail
    go_ret
    rw [E]
    exact ⟨rfl, FN.out⟩
end
end Dw
namespace Dw
open Go.RowKit Go.Shelf Go.Maps
open At (bAl zaa zab zac)
open Rs (Prt Prts ix ixI remP)
open Sc (Cmp)
open Wo (setB AP pick sx sixS zed zP)
theorem zlg {row : List Prt} {comp : Int} : (pick row comp = none -> ixI row comp = -1) /\ ∀ q, pick row comp = some q -> ixI row comp = (ix row comp : Int) /\ ix row comp < row.length /\ row[ix row comp]? = some q := by
 unfold pick ixI
 refine ⟨fun h => ?_, fun q h => ?_⟩
 ·have := List.getElem?_eq_none_iff.1 h
  rw [if_neg (by omega)]
 have := (List.getElem?_eq_some_iff.1 h).1
 exact ⟨if_pos this, this, h⟩
section
variable {Z : World} {S S' T : Nat -> Prop} {W W' W2 : World} {b : Nat} {va vb lv gv : Value} {x x' : DW} {cs : List Cmp} {most : Nat} {a : AP}
theorem z9z {w w1 : World} (hb : Below w1.heap.size w1 w) {W : World} (hw1 : w1 = W.alloc zP) (q : Prt) : sixS (sx w W.heap.size q) W.heap.size q /\ Below W.heap.size W (sx w W.heap.size q) /\ w.cell? ⟨W.heap.size, 0, none⟩ = some (.int .i64 0) /\ w.cell? ⟨W.heap.size, 1, none⟩ = some (.int .i64 0) /\ w.cell? ⟨W.heap.size, 2, none⟩ = some (.int .i64 0) /\ w.cell? ⟨W.heap.size, 3, none⟩ = some (.int .i64 0) /\ w.cell? ⟨W.heap.size, 4, none⟩ = some (.int .i64 0) /\ w.cell? ⟨W.heap.size, 5, none⟩ = some (.int .i64 0) /\ w.frozen? ⟨W.heap.size, 0, none⟩ = false /\ w.frozen? ⟨W.heap.size, 1, none⟩ = false /\ w.frozen? ⟨W.heap.size, 2, none⟩ = false /\ w.frozen? ⟨W.heap.size, 3, none⟩ = false /\ w.frozen? ⟨W.heap.size, 4, none⟩ = false /\ w.frozen? ⟨W.heap.size, 5, none⟩ = false := by
 have r1 : w1.heap[W.heap.size]? = some zP := by rw [hw1]; exact heap_alloc_new W _
 have b1 : Below W.heap.size W w1 := by rw [hw1]; exact bAl _ _
 have z3 := zab hb (Nat.le_refl _) r1
 have S6 := Rs.zjc (q := Prt.zero) (p := q) z3
 exact ⟨zed S6.1, (b1.trans (hb.mono b1.size)).trans (S6.2 W.heap.size (Nat.le_refl _)), zaa z3 rfl, zaa z3 rfl, zaa z3 rfl, zaa z3 rfl, zaa z3 rfl, zaa z3 rfl, zac z3 0, zac z3 1, zac z3 2, zac z3 3, zac z3 4, zac z3 5⟩
theorem z6t (h : Dm Z S W b va vb lv gv (dw cs most a)) (hrow : ∀ p ∈ a.L, p.2.length <= 100) (id comp : Int) :
  Calls Tryz.prog 107 #[.pointer (some ⟨b, 0, none⟩), .int .i64 id, .int .i64 comp] W fun e W' => e = .returned (.tuple #[.agg #[.int .i64 (a.get id comp).2.c, .int .i64 (a.get id comp).2.v0, .int .i64 (a.get id comp).2.v1, .int .i64 (a.get id comp).2.v2, .int .i64 (a.get id comp).2.v3, .int .i64 (a.get id comp).2.t], .int .i64 (((a.get id comp).1 : Nat) : Int)]) /\ Below W.heap.size W W' := by
 obtain ⟨w1, hw1⟩ : ∃ w1, w1 = W.alloc zP := ⟨_, rfl⟩
 have b1 : Below W.heap.size W w1 := by rw [hw1]; exact bAl _ _
 have h1 := h.later b1
 have AT := hid (zhv h1 id)
 change Hid (Calls _ _ _ _ fun e W' => e = .returned (.int .i64 (plcI a.L id)) /\ W' = w1) at AT
 obtain ⟨la, lc, rfl⟩ := h.be.slice
 change Dm Z S w1 b va vb (.slice la a.L.length lc) gv (dw cs most a) at h1
 have c3 : w1.cell? ⟨b, 3, none⟩ = some (.slice la a.L.length lc) := h1.cell (j := 3) rfl
 have h64 : a.L.length <= 64 := h1.l64
 have SF := hid fun q => z9z (Below.refl w1.heap.size w1) hw1 q
 have HW1 := hid hw1
 unfold zP at HW1
 unfold AP.get
 cases hl : Wo.look a.L id with
 | none =>
  rw [zlk hl] at AT
  obtain ⟨zz, bb, y0, y1, y2, y3, y4, y5, f0, f1, f2, f3, f4, f5⟩ := SF.out ⟨0, 0, 0, 0, 0, 0⟩
  obtain ⟨wy, hwy⟩ : ∃ wy, wy = sx w1 W.heap.size ⟨0, 0, 0, 0, 0, 0⟩ := ⟨_, rfl⟩
  rw [<- hwy] at zz bb
  unfold sx at hwy
  dsimp only at hwy
  obtain ⟨z0, z1, z2, z3, z4, z5⟩ := zz
  dsimp only at z0 z1 z2 z3 z4 z5
  have HY := hid hwy
  have HBB := hid bb
  clear h h1 hw1 b1 bb hwy
  go_enter Tryz.func107, Tryz.ntmps107
  go_upto_region 1 with fail
  rw [<- HW1.out]
  clear HW1
  go_wp2_with fail
  refine AT.out.mono ?_
  rintro e w2 ⟨rfl, rfl⟩
  go_wp2_with fail
  rw [<- HY.out]
  exact bodyPost_ret (v := .tuple #[.agg #[.int .i64 0, .int .i64 0, .int .i64 0, .int .i64 0, .int .i64 0, .int .i64 0], .int .i64 17]) (by simp [results, Tryz.results107, go_sem, z0, z1, z2, z3, z4, z5]) rfl ⟨rfl, HBB.out⟩
 | some row =>
  obtain ⟨e1, e2, e3⟩ := zgs hl
  rw [e1] at AT
  obtain ⟨g, pv, rfl, d0, d1, q⟩ := h1.be.at (L := a.L) e3
  have hrl := hrow _ (List.mem_of_getElem? e3)
  obtain ⟨pa, pc, rfl⟩ := q.1.slice
  have PA := hid (Rs.zhv w1 _ row comp q.1.row (by simp only at hrl; omega))
  have hii : (plc a.L id : Int) < (a.L.length : Int) := by omega
  have hli : (a.L.length : Int) <= 64 := by omega
  have Q1 := hid q
  have hrl' : (row.length : Int) <= 100 := by simp only at hrl; omega
  simp only
  cases hpk : pick row comp with
  | none =>
   rw [zlg.1 hpk] at PA
   obtain ⟨zz, bb, y0, y1, y2, y3, y4, y5, f0, f1, f2, f3, f4, f5⟩ := SF.out ⟨0, 0, 0, 0, 0, 0⟩
   obtain ⟨wy, hwy⟩ : ∃ wy, wy = sx w1 W.heap.size ⟨0, 0, 0, 0, 0, 0⟩ := ⟨_, rfl⟩
   rw [<- hwy] at zz bb
   unfold sx at hwy
   dsimp only at hwy
   obtain ⟨z0, z1, z2, z3, z4, z5⟩ := zz
   dsimp only at z0 z1 z2 z3 z4 z5
   have HY := hid hwy
   have HBB := hid bb
   clear h h1 hw1 b1 bb hwy q e1 e2 e3 hl
   generalize plc a.L id = p at *
   go_enter Tryz.func107, Tryz.ntmps107
   go_upto_region 1 with fail
   rw [<- HW1.out]
   clear HW1
   go_wp2_with fail
   refine AT.out.mono ?_
   rintro e w2 ⟨rfl, rfl⟩
   go_wp2_with fail
   refine PA.out.mono ?_
   rintro e w3 ⟨rfl, rfl⟩
   go_wp2_with fail
   rw [<- HY.out]
   exact bodyPost_ret (v := .tuple #[.agg #[.int .i64 0, .int .i64 0, .int .i64 0, .int .i64 0, .int .i64 0, .int .i64 0], .int .i64 7]) (by simp [results, Tryz.results107, go_sem, z0, z1, z2, z3, z4, z5]) rfl ⟨rfl, HBB.out⟩
  | some pq =>
   obtain ⟨i1, i2, i3⟩ := zlg.2 pq hpk
   rw [i1] at PA
   obtain ⟨b2, o2, hs2, ⟨x0, x1, x2, x3, x4, x5⟩⟩ := (Q1.out.1.row).at i3
   obtain rfl := hs2
   obtain ⟨zz, bb, y0, y1, y2, y3, y4, y5, f0, f1, f2, f3, f4, f5⟩ := SF.out pq
   obtain ⟨wy, hwy⟩ : ∃ wy, wy = sx w1 W.heap.size pq := ⟨_, rfl⟩
   rw [<- hwy] at zz bb
   unfold sx at hwy
   obtain ⟨z0, z1, z2, z3, z4, z5⟩ := zz
   have HY := hid hwy
   have HBB := hid bb
   have hki : (ix row comp : Int) < (row.length : Int) := by omega
   clear h h1 hw1 b1 bb hwy q e1 e2 e3 hl i1 i2 i3 hpk
   generalize plc a.L id = p at *
   generalize ix row comp = kx at *
   go_enter Tryz.func107, Tryz.ntmps107
   go_upto_region 1 with fail
   rw [<- HW1.out]
   clear HW1
   go_wp2_with fail
   refine AT.out.mono ?_
   rintro e w2 ⟨rfl, rfl⟩
   go_wp2_with fail
   refine PA.out.mono ?_
   rintro e w3 ⟨rfl, rfl⟩
   go_wp2_with fail
   rw [<- HY.out]
   exact bodyPost_ret (v := .tuple #[.agg #[.int .i64 pq.c, .int .i64 pq.v0, .int .i64 pq.v1, .int .i64 pq.v2, .int .i64 pq.v3, .int .i64 pq.t], .int .i64 0]) (by simp [results, Tryz.results107, go_sem, z0, z1, z2, z3, z4, z5]) rfl ⟨rfl, HBB.out⟩
end
section
variable {Z : World} {S S' T : Nat -> Prop} {W W' W2 : World} {b : Nat} {va vb lv gv : Value} {x x' : DW} {cs : List Cmp} {most : Nat} {a : AP}
theorem z7a (a : AP) (id comp : Int) : (a.get id comp).1 = (a.zbq id comp).1 := by
 unfold AP.get AP.zbq
 cases Wo.look a.L id with
 | none => rfl
 | some row => simp only; cases pick row comp <;> rfl
theorem zho (h : Dm Z S W b va vb lv gv (dw cs most a)) (hr : Rise a.L) (hrow : ∀ p ∈ a.L, p.2.length <= 100) (id comp : Int) :
  Calls Tryz.prog 57 #[.pointer (some ⟨b, 0, none⟩), .int .i64 id, .int .i64 comp] W fun e W' => e = .returned (.int .i64 (((a.zbq id comp).1 : Nat) : Int)) /\ Dgo Z S W W' b va vb gv (dw cs most (a.zbq id comp).2) := by
 have GT := hid (z6t h hrow id comp)
 have HH := hid h
 have EF := z7a a id comp
 generalize hgq : (a.get id comp).2 = gq at *
 rw [EF] at GT
 by_cases hz : (a.zbq id comp).1 = 0
 ·have EX : ∃ row q, Wo.look a.L id = some row /\ pick row comp = some q /\ (a.zbq id comp).2 = { a with L := setB a.L id (remP row comp) } := by
   unfold AP.zbq at hz ⊢
   cases hl : Wo.look a.L id with
   | none => rw [hl] at hz; simp at hz
   | some row =>
    rw [hl] at hz
    simp only at hz ⊢
    cases hp : pick row comp with
    | none => rw [hp] at hz; simp at hz
    | some q => exact ⟨row, q, rfl, hp, rfl⟩
  obtain ⟨row, q, hl, hpk, hq2⟩ := EX
  rw [hz, hq2]
  rw [hz] at GT
  obtain ⟨e1, e2, e3⟩ := zgs hl
  have ES : Hid (setB a.L id (remP row comp) = a.L.set (plc a.L id) (id, remP row comp)) := hid (zyz hr)
  have HRL : Hid (row.length <= 100) := hid (hrow _ (List.mem_of_getElem? e3))
  have h64 : a.L.length <= 64 := h.l64
  obtain ⟨la, lc, rfl⟩ := h.be.slice
  change Dm Z S W b va vb (.slice la a.L.length lc) gv (dw cs most a) at h
  have H2 : Hid (Dm Z S W b va vb (.slice la a.L.length lc) gv (dw cs most a)) := hid h
  have RO := hid fun (w : World) (hb : Below W.heap.size W w) => zdb (H2.out.later hb) comp
  have AT : Hid (∀ w, Below W.heap.size W w -> Calls Tryz.prog 102 #[.pointer (some ⟨b, 0, none⟩), .int .i64 id] w fun e W' => e = .returned (.int .i64 (plc a.L id : Int)) /\ W' = w) := hid fun w hb => by
   have := zhv (H2.out.later hb) id
   change Calls _ _ _ _ fun e W' => e = .returned (.int .i64 (plcI a.L id)) /\ W' = w at this
   rw [e1] at this
   exact this
  obtain ⟨g, pv, rfl, d0, d1, qq⟩ := h.be.at (L := a.L) e3
  obtain ⟨pa, pc, rfl⟩ := qq.1.slice
  have C3 : Hid (∀ w, Below W.heap.size W w -> w.cell? ⟨b, 3, none⟩ = some (.slice (some ⟨g, 0, none⟩) a.L.length lc) /\ w.cell? ⟨g, plc a.L id * 2, none⟩ = some (.int .i64 id) /\ w.cell? ⟨g, plc a.L id * 2 + 1, none⟩ = some (.slice pa row.length pc)) := hid fun w hb => ⟨(H2.out.later hb).cell (j := 3) rfl, At.seen hb (Nat.le_refl _) d0, At.seen hb (Nat.le_refl _) d1⟩
  have WO := hid fun (w : World) (hb : Below W.heap.size W w) => Rs.zpa w _ row comp ((qq.later hb).1.row) (by have := HRL.out; omega)
  have PU : Hid (∀ w w2 (pv' : Value), Below W.heap.size W w -> Below w.heap.size w w2 -> Prts w.heap.size w2 pv' (remP row comp) -> Calls Tryz.prog 105 #[.pointer (some ⟨b, 0, none⟩), .int .i64 (plc a.L id : Int), pv'] w2 fun e W' => e = .returned (.tuple #[]) /\ Dgo Z S W W' b va vb gv (dw cs most { a with L := setB a.L id (remP row comp) })) := hid fun w w2 pv' hb hb2 hp => by
   have hb3 := hb.trans (hb2.mono hb.size)
   refine (zyw (H2.out.grown hb3) (plc a.L id) id row (remP row comp) e3 pv' (PS.new hp hb.size)).mono ?_
   rintro e W' ⟨rfl, q1, q2⟩
   rw [ES.out]
   exact ⟨rfl, Dgo.after hb3 ⟨q1, q2⟩⟩
  have NT := hid fun (w : World) (hb : Below W.heap.size W w) => zch (H2.out.later hb) 5 id gq.c gq.v0 gq.v1 gq.v2 gq.v3 gq.t none 0 0 0 0
  have hii : (plc a.L id : Int) < (a.L.length : Int) := by omega
  have hli : (a.L.length : Int) <= 64 := by omega
  generalize Wo.zao (dw cs most a).cs comp = rb at *
  clear h qq d0 d1 e1 e2 e3 hl hpk hq2 hz hr hrow EF hgq HH
  generalize plc a.L id = p at *
  go_enter Tryz.func57, Tryz.ntmps57
  go_wp2_with fail
  refine GT.out.mono ?_
  rintro e w1 ⟨rfl, hb1⟩
  obtain ⟨w2, hw2, b2, r2, k2⟩ := Wo.zdi hb1 (.cells #[.int .i64 gq.c, .int .i64 gq.v0, .int .i64 gq.v1, .int .i64 gq.v2, .int .i64 gq.v3, .int .i64 gq.t] 89)
  have B2 := hid b2
  have HW2 := hid hw2
  obtain ⟨s0, s1, s2, s3, s4, s5⟩ := zed (q := gq) r2
  clear hb1 hw2 b2 r2 k2 GT
  go_upto_region 2 with fail
  rw [<- HW2.out]
  clear HW2
  generalize w1.heap.size = R1 at *
  go_wp2_with fail
  refine (RO.out w2 B2.out).mono ?_
  rintro e w3 ⟨rfl, rfl⟩
  cases rb with
  | true =>
   have NT3 := hid (NT.out w3 B2.out)
   go_wp2_with fail
   refine NT3.out.mono ?_
   rintro e w4 ⟨rfl, hb4⟩
   have B4 := hid (B2.out.trans (hb4.mono B2.out.size))
   have AT4 := hid (AT.out w4 B4.out)
   obtain ⟨c3, c30, c31⟩ := C3.out w4 B4.out
   have WO4 := hid (WO.out w4 B4.out)
   clear hb4 NT3 s0 s1 s2 s3 s4 s5
   go_wp2_with fail
   refine AT4.out.mono ?_
   rintro e w5 ⟨rfl, rfl⟩
   go_wp2_with fail
   refine WO4.out.mono ?_
   rintro e w6 ⟨pv', rfl, hp6, hb6⟩
   have PU6 := hid (PU.out w5 w6 pv' B4.out hb6 hp6)
   clear hp6 hb6 WO4
   go_wp2_with fail
   refine PU6.out.mono ?_
   rintro e w7 ⟨rfl, h7⟩
   have H7 := hid h7
   clear h7 PU6
   go_wp2_with fail
   go_ret
   exact ⟨rfl, H7.out⟩
  | false =>
   have AT4 := hid (AT.out w3 B2.out)
   obtain ⟨c3, c30, c31⟩ := C3.out w3 B2.out
   have WO4 := hid (WO.out w3 B2.out)
   clear s0 s1 s2 s3 s4 s5
   go_wp2_with fail
   refine AT4.out.mono ?_
   rintro e w5 ⟨rfl, rfl⟩
   go_wp2_with fail
   refine WO4.out.mono ?_
   rintro e w6 ⟨pv', rfl, hp6, hb6⟩
   have PU6 := hid (PU.out w5 w6 pv' B2.out hb6 hp6)
   clear hp6 hb6 WO4
   go_wp2_with fail
   refine PU6.out.mono ?_
   rintro e w7 ⟨rfl, h7⟩
   have H7 := hid h7
   clear h7 PU6
   go_wp2_with fail
   go_ret
   exact ⟨rfl, H7.out⟩
 have hi : ¬ ((((a.zbq id comp).1 : Nat) : Int) = 0) := by omega
 have E2 : (a.zbq id comp).2 = a := by
  unfold AP.zbq at hz ⊢
  cases hl : Wo.look a.L id with
  | none => rfl
  | some row =>
   rw [hl] at hz
   simp only at hz ⊢
   cases hp : pick row comp with
   | none => rfl
   | some q => rw [hp] at hz; exact absurd rfl hz
 rw [E2]
 generalize (a.zbq id comp).1 = er at *
 clear h hr hrow EF hgq hz E2
 go_enter Tryz.func57, Tryz.ntmps57
 go_wp2_with fail
 refine GT.out.mono ?_
 rintro e w1 ⟨rfl, hb1⟩
 obtain ⟨w2, hw2, b2, r2, k2⟩ := Wo.zdi hb1 (.cells #[.int .i64 gq.c, .int .i64 gq.v0, .int .i64 gq.v1, .int .i64 gq.v2, .int .i64 gq.v3, .int .i64 gq.t] 89)
 have HW2 := hid hw2
 have DG := hid (Dgo.stay HH.out b2)
 clear hb1 hw2 b2 r2 k2 GT
 go_upto_region 2 with fail
 rw [<- HW2.out]
 clear HW2
 generalize w1.heap.size = R1 at *
 go_wp2_with fail
 go_ret
 exact ⟨rfl, DG.out⟩
end
end Dw
namespace Dw
open Go.RowKit Go.Shelf Go.Maps
open Rs (Prts ix insP)
open Sc (Cmp)
open Wo (setB AP pick zhm zdc zhc dfP WK)
section
variable {Z : World} {S S' T : Nat -> Prop} {W W' W2 : World} {b : Nat} {va vb lv gv : Value} {x x' : DW} {cs : List Cmp} {most : Nat} {a : AP}
set_option maxRecDepth 100000 in
theorem zhj {k : WK} (hk : k.x.cs = cs) (h : Dm Z S W b va vb lv gv (dw cs most a)) (hr : Rise a.L) (hrow : ∀ p ∈ a.L, p.2.length <= 100) (id comp : Int) :
  Calls Tryz.prog 56 #[.pointer (some ⟨b, 0, none⟩), .int .i64 id, .int .i64 comp] W fun e W' => e = .returned (.int .i64 (((a.insert k id comp).1 : Nat) : Int)) /\ Dgo Z S W W' b va vb gv (dw cs most (a.insert k id comp).2) := by
 subst hk
 have AT := hid (zhv h id)
 change Hid (Calls _ _ _ _ fun e W' => e = .returned (.int .i64 (plcI a.L id)) /\ W' = W) at AT
 have HH := hid h
 unfold AP.insert
 cases hl : Wo.look a.L id with
 | none =>
  rw [zlk hl] at AT
  clear h
  go_enter Tryz.func56, Tryz.ntmps56
  go_wp2_with fail
  refine AT.out.mono ?_
  rintro e w1 ⟨rfl, rfl⟩
  go_wp2_with fail
  go_ret
  exact ⟨rfl, Dgo.stay HH.out (Below.refl _ _)⟩
 | some row =>
  obtain ⟨e1, e2, e3⟩ := zgs hl
  rw [e1] at AT
  have ES : Hid (∀ r, setB a.L id r = a.L.set (plc a.L id) (id, r)) := hid fun r => zyz hr
  have hrl := hrow _ (List.mem_of_getElem? e3)
  have h64 : a.L.length <= 64 := h.l64
  have hcl : k.x.cs.length <= 16 := h.few
  obtain ⟨la, lc, rfl⟩ := h.be.slice
  change Dm Z S W b va vb (.slice la a.L.length lc) gv (dw k.x.cs most a) at h
  have H2 : Hid (Dm Z S W b va vb (.slice la a.L.length lc) gv (dw k.x.cs most a)) := hid h
  obtain ⟨g, pv, rfl, d0, d1, qq⟩ := h.be.at (L := a.L) e3
  obtain ⟨pa, pc, rfl⟩ := qq.1.slice
  obtain ⟨ka, kc, hva, -, hkr⟩ := h.cmp
  change va = .slice ka k.x.cs.length kc at hva
  subst hva
  have C3 : Hid (∀ w, Below W.heap.size W w -> w.cell? ⟨b, 3, none⟩ = some (.slice (some ⟨g, 0, none⟩) a.L.length lc) /\ w.cell? ⟨g, plc a.L id * 2, none⟩ = some (.int .i64 id) /\ w.cell? ⟨g, plc a.L id * 2 + 1, none⟩ = some (.slice pa row.length pc)) := hid fun w hb => ⟨(H2.out.later hb).cell (j := 3) rfl, At.seen hb (Nat.le_refl _) d0, At.seen hb (Nat.le_refl _) d1⟩
  have c0 : W.cell? ⟨b, 0, none⟩ = some (.slice ka k.x.cs.length kc) := h.cell (j := 0) rfl
  have hii : (plc a.L id : Int) < (a.L.length : Int) := by omega
  have hli : (a.L.length : Int) <= 64 := by omega
  have hcli : (k.x.cs.length : Int) <= 16 := by omega
  simp only
  cases hc : zhm k.x.cs comp with
  | none =>
   simp only
   have hout := zhc hc
   clear h qq d0 d1 e1 e2 e3 hl hr hrow hkr
   generalize plc a.L id = p at *
   by_cases h0 : comp < 0
   ·clear hout
    go_enter Tryz.func56, Tryz.ntmps56
    go_wp2_with fail
    refine AT.out.mono ?_
    rintro e w1 ⟨rfl, rfl⟩
    go_wp2_with fail
    go_ret
    exact ⟨rfl, Dgo.stay HH.out (Below.refl _ _)⟩
   have h1 : (k.x.cs.length : Int) <= comp := by omega
   clear hout
   go_enter Tryz.func56, Tryz.ntmps56
   go_wp2_with fail
   refine AT.out.mono ?_
   rintro e w1 ⟨rfl, rfl⟩
   go_wp2_with fail
   go_ret
   exact ⟨rfl, Dgo.stay HH.out (Below.refl _ _)⟩
  | some q =>
   obtain ⟨m, rfl, hm⟩ := zdc hc
   have hml : m < k.x.cs.length := (List.getElem?_eq_some_iff.1 hm).1
   have h0 : ¬ ((m : Int) < 0) := by omega
   have h1 : ¬ ((k.x.cs.length : Int) <= (m : Int)) := by omega
   have h1' : (m : Int) < (k.x.cs.length : Int) := by omega
   have PA := hid (Rs.zhv W _ row (m : Int) qq.1.row (by simp only at hrl; omega))
   obtain ⟨c3, c30, c31⟩ := C3.out W (Below.refl _ _)
   have hrl' : (row.length : Int) <= 100 := by simp only at hrl; omega
   simp only
   cases hpk : pick row (m : Int) with
   | some pq =>
    obtain ⟨i1, i2, i3⟩ := zlg.2 pq hpk
    rw [i1] at PA
    have hpi : ¬ ((ix row (m : Int) : Int) < 0) := by omega
    clear h qq d0 d1 e1 e2 e3 hl hr hrow hkr i1 i2 i3 hpk hm hc
    generalize plc a.L id = p at *
    generalize ix row (m : Int) = kx at *
    simp only
    go_enter Tryz.func56, Tryz.ntmps56
    go_wp2_with fail
    refine AT.out.mono ?_
    rintro e w1 ⟨rfl, rfl⟩
    go_wp2_with fail
    refine PA.out.mono ?_
    rintro e w2 ⟨rfl, rfl⟩
    go_wp2_with fail
    go_ret
    exact ⟨rfl, Dgo.stay HH.out (Below.refl _ _)⟩
   | none =>
    rw [zlg.1 hpk] at PA
    simp only
    obtain ⟨kb, ko, rfl, hkq⟩ : ∃ kb ko, ka = some ⟨kb, ko, none⟩ /\ (W.cell? ⟨kb, ko + m * 7 + 3, none⟩ = some (.int .i64 q.d0) /\ W.cell? ⟨kb, ko + m * 7 + 4, none⟩ = some (.int .i64 q.d1) /\ W.cell? ⟨kb, ko + m * 7 + 5, none⟩ = some (.int .i64 q.d2) /\ W.cell? ⟨kb, ko + m * 7 + 6, none⟩ = some (.int .i64 q.d3)) := by
     rcases hkr with hkr | ⟨kb, ko, e, hkr⟩
     ·exfalso; change k.x.cs = [] at hkr; rw [hkr] at hml; simp at hml
     obtain ⟨-, -, -, q3, q4, q5, q6⟩ := hkr m q hm
     exact ⟨kb, ko, e, q3, q4, q5, q6⟩
    have RO := hid fun (w : World) (hb : Below W.heap.size W w) => zdb (H2.out.later hb) (m : Int)
    have NT := hid fun (w : World) (hb : Below W.heap.size W w) => zch (H2.out.later hb) 4 id (m : Int) 0 0 0 0 0 none 0 0 0 0
    have C0 : Hid (∀ w, Below W.heap.size W w -> w.cell? ⟨b, 0, none⟩ = some (.slice (some ⟨kb, ko, none⟩) k.x.cs.length kc) /\ w.cell? ⟨b, 4, none⟩ = some (.int .i64 a.fr) /\ w.cell? ⟨kb, ko + m * 7 + 3, none⟩ = some (.int .i64 q.d0) /\ w.cell? ⟨kb, ko + m * 7 + 4, none⟩ = some (.int .i64 q.d1) /\ w.cell? ⟨kb, ko + m * 7 + 5, none⟩ = some (.int .i64 q.d2) /\ w.cell? ⟨kb, ko + m * 7 + 6, none⟩ = some (.int .i64 q.d3)) := hid fun w hb => ⟨(H2.out.later hb).cell (j := 0) rfl, (H2.out.later hb).cell (j := 4) rfl, At.seen hb (Nat.le_refl _) hkq.1, At.seen hb (Nat.le_refl _) hkq.2.1, At.seen hb (Nat.le_refl _) hkq.2.2.1, At.seen hb (Nat.le_refl _) hkq.2.2.2⟩
    have WI := hid fun (w : World) (hb : Below W.heap.size W w) => Rs.zff w _ row ⟨(m : Int), q.d0, q.d1, q.d2, q.d3, a.fr⟩ ((qq.later hb).1.row) (by simp only at hrl; omega)
    have PU : Hid (∀ w w2 (pv' : Value), Below W.heap.size W w -> Below w.heap.size w w2 -> Prts w.heap.size w2 pv' (insP row ⟨(m : Int), q.d0, q.d1, q.d2, q.d3, a.fr⟩) -> Calls Tryz.prog 105 #[.pointer (some ⟨b, 0, none⟩), .int .i64 (plc a.L id : Int), pv'] w2 fun e W' => e = .returned (.tuple #[]) /\ Dgo Z S W W' b (.slice (some ⟨kb, ko, none⟩) k.x.cs.length kc) vb gv (dw k.x.cs most { a with L := setB a.L id (insP row (dfP (m : Int) q a.fr)) })) := hid fun w w2 pv' hb hb2 hp => by
     have hb3 := hb.trans (hb2.mono hb.size)
     refine (zyw (H2.out.grown hb3) (plc a.L id) id row _ e3 pv' (PS.new hp hb.size)).mono ?_
     rintro e W' ⟨rfl, q1, q2⟩
     rw [ES.out]
     exact ⟨rfl, Dgo.after hb3 ⟨q1, q2⟩⟩
    have hpn : ((-1 : Int) < 0) := by decide
    change Hid (∀ w, Below W.heap.size W w -> Calls _ _ _ _ fun e W' => e = .returned (.bool (Wo.zao k.x.cs (m : Int))) /\ W' = w) at RO
    generalize Wo.zao k.x.cs (m : Int) = rb at *
    obtain ⟨c0, c4, k3, k4, k5, k6⟩ := C0.out W (Below.refl _ _)
    clear h qq d0 d1 e1 e2 e3 hl hr hrow hkr hpk hm hc hkq ES
    generalize plc a.L id = p at *
    generalize { a with L := setB a.L id (insP row (dfP (m : Int) q a.fr)) } = a2 at *
    go_enter Tryz.func56, Tryz.ntmps56
    go_wp2_with fail
    refine AT.out.mono ?_
    rintro e w1 ⟨rfl, rfl⟩
    go_wp2_with fail
    refine PA.out.mono ?_
    rintro e w2 ⟨rfl, rfl⟩
    go_wp2_with fail
    refine (RO.out w2 (Below.refl _ _)).mono ?_
    rintro e w3 ⟨rfl, rfl⟩
    clear c3 c30 c31 c0 c4 k3 k4 k5 k6 PA AT RO
    cases rb with
    | true =>
     have NT3 := hid (NT.out w3 (Below.refl _ _))
     go_wp2_with fail
     refine NT3.out.mono ?_
     rintro e w4 ⟨rfl, hb4⟩
     have B4 := hid hb4
     clear hb4 NT3 NT
     obtain ⟨c3, c30, c31⟩ := C3.out w4 B4.out
     obtain ⟨c0, c4, k3, k4, k5, k6⟩ := C0.out w4 B4.out
     go_upto_region 10 with fail
     go_region_law (first
      | (go_simp; refine (WI.out _ (by first | exact B4.out | exact B4.out.drew | exact B4.out.drew.drew)).mono ?_; rintro e w6 ⟨pv', rfl, hp6, hb6⟩)
      | (go_simp; refine (PU.out _ w6 pv' (by first | exact B4.out | exact B4.out.drew | exact B4.out.drew.drew) hb6 hp6).mono ?_; rintro e w7 ⟨rfl, h7⟩))
     all_goals
      go_wp2_with fail
      go_ret
      exact ⟨rfl, h7⟩
    | false =>
     obtain ⟨w4, hw4⟩ : ∃ w4, w4 = w3 := ⟨_, rfl⟩
     have B4 : Hid (Below w3.heap.size w3 w4) := hid (by rw [hw4]; exact Below.refl _ _)
     go_upto_region 10 with fail
     rw [<- hw4]
     clear NT hw4
     obtain ⟨c3, c30, c31⟩ := C3.out w4 B4.out
     obtain ⟨c0, c4, k3, k4, k5, k6⟩ := C0.out w4 B4.out
     go_region_law (first
      | (go_simp; refine (WI.out _ (by first | exact B4.out | exact B4.out.drew | exact B4.out.drew.drew)).mono ?_; rintro e w6 ⟨pv', rfl, hp6, hb6⟩)
      | (go_simp; refine (PU.out _ w6 pv' (by first | exact B4.out | exact B4.out.drew | exact B4.out.drew.drew) hb6 hp6).mono ?_; rintro e w7 ⟨rfl, h7⟩))
     all_goals
      go_wp2_with fail
      go_ret
      exact ⟨rfl, h7⟩
end
end Dw
namespace Dw
open Go.RowKit Go.Shelf Go.Maps
open At (St bAl zac)
open Rs (Prt Prts PRow ix ixI insP fitP okW zvu)
open Go.Proofs.YthadfdbkkmmgoaaGreatDoor.So (chkL zbb)
open Sc (Cmp zah)
open Wo (insB AP WK)
def twc (l : List Prt) : Bool := !decide (l.Pairwise (fun x y => x.c ≠ y.c))
theorem z1r {l : List Prt} {k : Nat} {p : Prt} (hp : l[k]? = some p) : twc (l.take (k + 1)) = (twc (l.take k) || decide (0 <= ixI (zbb (l.take k)) p.c)) := by
 have e : l.take (k + 1) = l.take k ++ [p] := by rw [List.take_add_one, hp]; rfl
 have hx : 0 <= ixI (zbb (l.take k)) p.c ↔ ∃ q ∈ l.take k, q.c = p.c := by
  have q1 : (∃ q ∈ l.take k, q.c = p.c) ↔ ∃ q ∈ zbb (l.take k), (q.c == p.c) = true := by
   constructor
   ·rintro ⟨q, h1, h2⟩; exact ⟨q, (So.zdy _).mem_iff.1 h1, by simpa using h2⟩
   rintro ⟨q, h1, h2⟩; exact ⟨q, (So.zdy _).mem_iff.2 h1, by simpa using h2⟩
  rw [q1, <- List.findIdx_lt_length]
  unfold ixI ix
  split
  ·rename_i h; simp [h]
  rename_i h; simp [h]
 unfold twc
 rw [e]
 by_cases h1 : (l.take k).Pairwise (fun x y => x.c ≠ y.c)
 ·by_cases h2 : ∃ q ∈ l.take k, q.c = p.c
  ·obtain ⟨q, h3, h4⟩ := h2
   have h5 := hx.2 ⟨q, h3, h4⟩
   have h6 : ¬ (l.take k ++ [p]).Pairwise (fun x y => x.c ≠ y.c) := fun h7 => (List.pairwise_append.1 h7).2.2 q h3 p (by simp) h4
   rw [decide_eq_false h6, decide_eq_true h5, Bool.or_true]
   rfl
  have h5 : ¬ 0 <= ixI (zbb (l.take k)) p.c := fun q => h2 (hx.1 q)
  have h6 : (l.take k ++ [p]).Pairwise (fun x y => x.c ≠ y.c) := List.pairwise_append.2 ⟨h1, by simp, fun a ha b hb e => h2 ⟨a, ha, by simp at hb; rw [e, hb]⟩⟩
  rw [decide_eq_true h6, decide_eq_true h1, decide_eq_false h5]
  rfl
 have h6 : ¬ (l.take k ++ [p]).Pairwise (fun x y => x.c ≠ y.c) := fun q => h1 (List.pairwise_append.1 q).1
 rw [decide_eq_false h6, decide_eq_false h1]
 rfl
theorem zwr {l : List Prt} {k : Nat} {p : Prt} (hp : l[k]? = some p) : zbb (l.take (k + 1)) = insP (zbb (l.take k)) p := by
 have e : l.take (k + 1) = l.take k ++ [p] := by rw [List.take_add_one, hp]; rfl
 rw [e, So.zxo]
theorem ybz {W : World} {va : Value} {cs : List Cmp} {ws : List Nat} (h : zah W va cs) (hws : cs.map (fun c => c.wd) = ws.map fun (w : Nat) => (w : Int)) : zvu W va ws := by
 obtain ⟨a, c, rfl, -, h⟩ := h
 have hl : cs.length = ws.length := by simpa using congrArg List.length hws
 refine ⟨a, c, by rw [hl], ?_⟩
 rcases h with h | ⟨b, o, e, q⟩
 ·exact .inl (by rw [h] at hl; exact List.length_eq_zero_iff.1 hl.symm)
 refine .inr ⟨b, o, e, fun j x hx => ?_⟩
 obtain ⟨y, hy⟩ := zal cs j (by rw [hl]; exact (List.getElem?_eq_some_iff.1 hx).1)
 have e1 : y.wd = (x : Int) := by
  have q2 := congrArg (fun l => l[j]?) hws
  simp only [List.getElem?_map, hy, hx, Option.map_some, Option.some.injEq] at q2
  exact q2
 have q3 := (q j y hy).2.1
 rw [e1] at q3
 exact q3
section
variable {Z : World} {S S' T : Nat -> Prop} {W W' W2 : World} {b : Nat} {va vb lv gv : Value} {x x' : DW} {cs : List Cmp} {most : Nat} {a : AP}
theorem Dgo.then {W1 : World} (h1 : St (fun y => y = b) W W1) (h2 : Dgo Z (win S W W1) W1 W2 b va vb gv x') : Dgo Z S W W2 b va vb gv x' := by
 obtain ⟨⟨lv', q⟩, s⟩ := h2
 have w := zjm S W W1 W2 h1.size s.size
 exact ⟨⟨lv', q.more (fun y hy => (w y).1 hy) fun y hy => q.fin y ((w y).2 hy)⟩, h1.trans s fun _ _ q => q⟩
set_option maxRecDepth 100000 in
theorem zod (h : Dm Z S W b va vb lv gv (dw cs most a)) (hvb : ∃ a l c, vb = .slice a l c) {ws : List Nat} (hws : cs.map (fun c => c.wd) = ws.map fun (w : Nat) => (w : Int)) (hok : okW ws) {v : Value} {l : List Prt} (hv : PRow W v l) (hl : l.length <= 90) (hc : chkL ws l = 0) :
  Calls Tryz.prog 100 #[.pointer (some ⟨b, 0, none⟩), v] W fun e W' => ∃ u, e = .returned (.tuple #[u, .int .i64 0]) /\ Prts W.heap.size W' u (zbb l) /\ Below W.heap.size W W' := by
 have ALL : (∀ p ∈ l, fitP ws p = true) /\ l.Pairwise (fun x y => x.c ≠ y.c) := by
  unfold chkL at hc
  by_cases h1 : l.all (fitP ws)
  ·by_cases h2 : l.Pairwise (fun x y => x.c ≠ y.c)
   ·exact ⟨List.all_eq_true.1 h1, h2⟩
   rw [if_pos h1, if_neg h2] at hc; exact absurd hc (by decide)
  rw [if_neg h1] at hc; exact absurd hc (by decide)
 have HF : Hid (∀ p ∈ l, fitP ws p = true) := hid ALL.1
 have TW : Hid (∀ k, twc (l.take k) = false) := hid fun k => by
  unfold twc
  rw [decide_eq_true (ALL.2.sublist (List.take_sublist k l))]
  rfl
 obtain ⟨W2, hW2⟩ : ∃ W2, W2 = W.alloc (.cells #[] 89) := ⟨_, rfl⟩
 have b2 : Below W.heap.size W W2 := by rw [hW2]; exact bAl _ _
 have P0 : Hid (Prts W.heap.size W2 (.slice (some ⟨W.heap.size, 0, none⟩) 0 0) (zbb (l.take 0))) := by
  have := (World.ownsRow_lit W #[] 0 (Nat.le_refl _) (Nat.zero_le _) rfl : Prts _ (W.alloc (.cells #[] 89)) _ [])
  rw [<- hW2] at this
  exact this
 have HW2 := hid hW2
 have hli : (l.length : Int) <= 90 := by omega
 obtain ⟨pa, pc, rfl, -⟩ := id hv
 have CC : Hid (∀ w, Below W.heap.size W w -> w.cell? ⟨b, 0, none⟩ = some va /\ w.cell? ⟨b, 1, none⟩ = some vb) := hid fun w hb => ⟨(h.later hb).cell (j := 0) rfl, (h.later hb).cell (j := 1) rfl⟩
 have FT0 : Hid (∀ w p, Below W.heap.size W w -> p ∈ l -> Calls Tryz.prog 145 #[.agg #[va, vb], .agg #[.int .i64 p.c, .int .i64 p.v0, .int .i64 p.v1, .int .i64 p.v2, .int .i64 p.v3, .int .i64 p.t]] w fun e W' => e = .returned (.bool true) /\ Below w.heap.size w W') := hid fun w p hb hp => by
  have q := Rs.zih w va vb hvb ws p (ybz ((h.later hb).cmp : zah w va cs) hws) hok
  rw [HF.out p hp] at q
  exact q
 have HV := hid hv
 have B2 := hid b2
 clear h hv b2 hW2 hvb hws hok hc ALL HF
 go_enter Tryz.func100, Tryz.ntmps100
 go_upto_region 2 with fail
 rw [<- HW2.out]
 go_wp2_with fail
 go_loopg [6, 7, 8] l.length (fun gh lv tw i wr => ∃ k : Nat, k <= l.length /\ gh = l.length - k /\ i = .int .i64 (k : Int) /\ tw = .bool false /\ Hid (Prts W.heap.size wr lv (zbb (l.take k))) /\ Hid (Below W2.heap.size W2 wr))
 case atStart => exact ⟨0, Nat.zero_le _, rfl, rfl, rfl, P0.out, Below.refl _ _⟩
 case round =>
  obtain ⟨k, hk, rfl, rfl, rfl, HL, HB⟩ := hrel
  have BR := hid (B2.out.trans (HB.out.mono B2.out.size))
  clear P0
  by_cases hlt : k < l.length
  ·have hki : (k : Int) < (l.length : Int) := by omega
   obtain ⟨p, hp⟩ := zal l k hlt
   obtain ⟨pb, po, e0, six⟩ := (HV.out.later BR.out).at hp
   subst e0
   obtain ⟨s0, s1, s2, s3, s4, s5⟩ := id six
   obtain ⟨c0, c1⟩ := CC.out wr BR.out
   have FT := hid (FT0.out wr.drew p BR.out.drew (List.mem_of_getElem? hp))
   have TX : Hid (ixI (zbb (l.take k)) p.c < 0) := hid (by
    have q := z1r hp
    rw [TW.out, TW.out] at q
    simp at q
    omega)
   have SN := hid (zwr hp)
   have hle2 : (zbb (l.take k)).length <= 90 := by rw [<- (So.zdy (l.take k)).length_eq]; simp; omega
   obtain ⟨ls, hls⟩ : ∃ ls, ls = zbb (l.take k) := ⟨_, rfl⟩
   rw [<- hls] at HL SN hle2 TX
   obtain ⟨oa, oc, rfl⟩ := HL.out.slice
   clear six hp hls
   go_wp2_with fail
   go_region_held3 (fun W' => W'.cell? ⟨b, 0, none⟩ = some va /\ W'.cell? ⟨b, 1, none⟩ = some vb /\ W'.cell? ⟨pb, po + k * 6, none⟩ = some (.int .i64 p.c) /\ W'.cell? ⟨pb, po + k * 6 + 1, none⟩ = some (.int .i64 p.v0) /\ W'.cell? ⟨pb, po + k * 6 + 2, none⟩ = some (.int .i64 p.v1) /\ W'.cell? ⟨pb, po + k * 6 + 3, none⟩ = some (.int .i64 p.v2) /\ W'.cell? ⟨pb, po + k * 6 + 4, none⟩ = some (.int .i64 p.v3) /\ W'.cell? ⟨pb, po + k * 6 + 5, none⟩ = some (.int .i64 p.t)) (go_keep) (first | (go_at_call 145; refine FT.out.mono ?_; rintro e w4 ⟨rfl, hb4⟩; have f0 := At.seen (W := wr.drew) hb4 (Nat.le_refl _) c0; have f1 := At.seen (W := wr.drew) hb4 (Nat.le_refl _) c1; have t0 := At.seen (W := wr.drew) hb4 (Nat.le_refl _) s0; have t1 := At.seen (W := wr.drew) hb4 (Nat.le_refl _) s1; have t2 := At.seen (W := wr.drew) hb4 (Nat.le_refl _) s2; have t3 := At.seen (W := wr.drew) hb4 (Nat.le_refl _) s3; have t4 := At.seen (W := wr.drew) hb4 (Nat.le_refl _) s4; have t5 := At.seen (W := wr.drew) hb4 (Nat.le_refl _) s5))
   have b4 := (Below.refl _ wr).drew.trans hb4
   have BQ := hid (BR.out.trans (b4.mono BR.out.size))
   have HB4 := hid (HB.out.trans (b4.mono HB.out.size))
   have HL4 := hid (HL.out.later b4)
   clear hb4 b4 FT f0 f1 c0 c1 s0 s1 s2 s3 s4 s5 HB HL BR
   have AT := hid (Rs.zhv w4 _ ls p.c HL4.out.row (by omega))
   have WI := hid (Rs.zff w4 _ ls p HL4.out.row (by omega))
   have FIN : Hid (∀ w5 v5, Prts w4.heap.size w5 v5 (insP ls p) -> Below w4.heap.size w4 w5 -> Hid (Prts W.heap.size w5 v5 (zbb (l.take (k + 1)))) /\ Hid (Below W2.heap.size W2 w5)) := fun w5 v5 q1 q2 => ⟨by rw [SN.out]; exact q1.lower BQ.out.size, HB4.out.trans (q2.mono HB4.out.size)⟩
   clear SN HL4 HB4
   generalize ixI ls p.c = xi at *
   have txi : ¬ ((0 : Int) <= xi) := by have := TX.out; omega
   go_wp2_with fail
   refine AT.out.mono ?_
   rintro e wq ⟨rfl, rfl⟩
   go_wp2_with fail
   refine WI.out.mono ?_
   rintro e w5 ⟨v5, rfl, q1, q2⟩
   have F := FIN.out w5 v5 q1 q2
   clear q1 q2 FIN WI AT
   go_wp2_with fail
   go_roundg (l.length - (k + 1))
   case measure => omega
   case rel => exact ⟨k + 1, by omega, rfl, by go_num, by simp [txi], F.1.out, F.2.out⟩
  have hki : ¬ ((k : Int) < (l.length : Int)) := by omega
  have e1 : l.take k = l := by rw [show k = l.length by omega]; exact List.take_length
  rw [e1] at HL
  obtain ⟨oa, oc, rfl⟩ := HL.out.slice
  go_wp2_with fail
  go_ret2
  exact ⟨_, rfl, HL.out, BR.out⟩
set_option maxRecDepth 100000 in
theorem zgd {k : WK} (h : Dm Z S W b va vb lv gv (dw cs k.most a)) (hvb : ∃ a l c, vb = .slice a l c) (hws : cs.map (fun c => c.wd) = k.ws.map fun (w : Nat) => (w : Int)) (hok : okW k.ws) (hm64 : k.most <= 64) {v : Value} {l : List Prt} (hv : PRow W v l) (hl : l.length <= 90) (hc : chkL k.ws l = 0) (hn : a.n <= 1073741824) (hn0 : 1 <= a.n) :
  Calls Tryz.prog 54 #[.pointer (some ⟨b, 0, none⟩), v] W fun e W' => e = .returned (.tuple #[.int .i64 (a.spawn k l).2.2, .int .i64 (((a.spawn k l).1 : Nat) : Int)]) /\ Dgo Z S W W' b va vb gv (dw cs k.most (a.spawn k l).2.1) := by
 have GT := hid (zod h hvb hws hok hv hl hc)
 have HH := hid h
 have hnn : ¬ (1073741824 < a.n) := by omega
 have h64 : a.L.length <= 64 := h.l64
 have hli : (a.L.length : Int) <= 64 := by omega
 have hmi : (k.most : Int) <= 64 := by omega
 obtain ⟨la, lc, rfl⟩ := h.be.slice
 obtain ⟨pa, pn, pc, rfl⟩ : ∃ pa pn pc, v = .slice pa pn pc := by obtain ⟨x, y, e, -⟩ := hv; exact ⟨x, _, y, e⟩
 have CC : Hid (∀ w, Below W.heap.size W w -> w.cell? ⟨b, 3, none⟩ = some (.slice la a.L.length lc) /\ w.cell? ⟨b, 2, none⟩ = some (.int .i64 (k.most : Int)) /\ w.cell? ⟨b, 5, none⟩ = some (.int .i64 a.n) /\ w.frozen? ⟨b, 5, none⟩ = false) := hid fun w hb => ⟨(HH.out.later hb).cell (j := 3) rfl, (HH.out.later hb).cell (j := 2) rfl, (HH.out.later hb).cell (j := 5) rfl, zac (HH.out.later hb).box 5⟩
 unfold AP.spawn
 rw [if_neg (by rw [hc]; decide)]
 by_cases hfull : k.most <= a.L.length
 ·rw [if_pos hfull]
  have hfi : (k.most : Int) <= (a.L.length : Int) := by omega
  have hfd : decide ((k.most : Int) <= (a.L.length : Int)) = true := by simp [hfi]
  clear h hv
  go_enter Tryz.func54, Tryz.ntmps54
  go_wp2_with fail
  refine GT.out.mono ?_
  rintro e w1 ⟨u, rfl, hp1, hb1⟩
  obtain ⟨ua, uc, rfl⟩ := hp1.slice
  have HB1 := hid hb1
  obtain ⟨c3, c2, c5, f5⟩ := CC.out w1 hb1
  clear hp1 hb1 GT
  go_upto_region 4 with fail
  go_quiet (fail)
  go_wp2_with fail
  go_ret2
  exact ⟨rfl, Dgo.stay HH.out (by first | exact HB1.out | exact HB1.out.trans ((At.zad _ _).mono HB1.out.size))⟩
 rw [if_neg hfull]
 have hfi : decide ((k.most : Int) <= (a.L.length : Int)) = false := by simp; omega
 have hnd : decide (1073741824 < a.n) = false := by simp; omega
 have hfn : decide (k.most <= a.L.length) = false := by simp; omega
 have NT7 := hid fun (w : World) (hb : Below W.heap.size W w) => zch (HH.out.later hb) 7 0 0 0 0 0 0 0 none 0 0 0 a.n
 have NT2 := hid fun (w : World) (hb : Below W.heap.size W w) => zch (HH.out.later hb) 2 a.n 0 0 0 0 0 0 none 0 0 0 0
 have hwn : IntKind.i64.wrap (a.n + 1) = a.n + 1 := Bd.zbn (by omega) (by omega)
 have AD : Hid (∀ w1 w3 pv, Prts W.heap.size w1 pv (zbb l) -> Below W.heap.size W w1 -> Below w1.heap.size w1 w3 -> Calls Tryz.prog 101 #[.pointer (some ⟨b, 0, none⟩), .int .i64 a.n, pv] (w3.setCell ⟨b, 5, none⟩ (.int .i64 (a.n + 1))) fun e W' => e = .returned (.tuple #[]) /\ Dgo Z S W W' b va vb gv (dw cs k.most { a with L := insB (a.n, zbb l) a.L, n := a.n + 1 })) := hid fun w1 w3 pv hp hb1 hb13 => by
  have hb3 := hb1.trans (hb13.mono hb1.size)
  have D3 := HH.out.grown hb3
  obtain ⟨q1, q2⟩ := D3.own (x' := dw cs k.most { a with n := a.n + 1 }) (lv' := .slice la a.L.length lc) (gv' := gv) (j := 5) (v := .int .i64 (a.n + 1)) rfl rfl (D3.rows D3.be) D3.nums D3.l64
  have st4 : St (fun y => y = b) W (w3.setCell ⟨b, 5, none⟩ (.int .i64 (a.n + 1))) := (St.of_below (S := fun y => y = b) hb3).trans q2 fun _ _ q => q
  have D4 : Dm Z (win S W (w3.setCell ⟨b, 5, none⟩ (.int .i64 (a.n + 1)))) (w3.setCell ⟨b, 5, none⟩ (.int .i64 (a.n + 1))) b va vb (.slice la a.L.length lc) gv (dw cs k.most { a with n := a.n + 1 }) := by
   have es : (w3.setCell ⟨b, 5, none⟩ (.int .i64 (a.n + 1))).heap.size = w3.heap.size := by simp
   unfold win at q1 ⊢
   rw [es]
   exact q1
  have hbW : b < W.heap.size := (HH.out.fin b HH.out.inb).2
  have hps : PS (fun y => W.heap.size <= y /\ y < w1.heap.size) w1 pv (zbb l) := ⟨hp.lower (Nat.zero_le _), fun y hy => hp.lt y hy⟩
  have hps4 : PS (fun y => W.heap.size <= y /\ y < w1.heap.size) (w3.setCell ⟨b, 5, none⟩ (.int .i64 (a.n + 1))) pv (zbb l) := (hps.later hb13).kept (T := fun y => y = b) (St.setCell _ rfl) (fun y hy e => by omega)
  have hsz : w1.heap.size <= (w3.setCell ⟨b, 5, none⟩ (.int .i64 (a.n + 1))).heap.size := by simpa using hb13.size
  refine (z7o D4 a.n (zbb l) (by show a.L.length < 64; omega) pv (hps4.mono fun y hy => .inr ⟨hy.1, by omega⟩)).mono ?_
  rintro e W' ⟨rfl, r1, r2⟩
  exact ⟨rfl, Dgo.then st4 ⟨r1, r2⟩⟩
 clear h hv hfull
 go_enter Tryz.func54, Tryz.ntmps54
 go_wp2_with fail
 refine GT.out.mono ?_
 rintro e w1 ⟨u, rfl, hp1, hb1⟩
 obtain ⟨ua, uc, rfl⟩ := hp1.slice
 have HB1 := hid hb1
 have HP1 := hid hp1
 obtain ⟨c3, c2, c5, f5⟩ := CC.out w1 hb1
 clear hp1 hb1 GT
 go_upto_region 4 with fail
 go_quiet (fail)
 go_wp2_with fail
 refine (NT7.out _ (HB1.out.trans ((At.zad _ _).mono HB1.out.size))).mono ?_
 rintro e w2 ⟨rfl, hb2⟩
 have hb2' := (At.zad w1 _).trans (hb2.mono (At.zad w1 _).size)
 have HB12 := hid hb2'
 have N2 := hid (NT2.out w2 (HB1.out.trans (hb2'.mono HB1.out.size)))
 clear hb2 hb2' NT2 NT7 c3 c2 c5 f5
 go_wp2_with fail
 refine N2.out.mono ?_
 rintro e w3 ⟨rfl, hb3⟩
 have HB13 := hid (HB12.out.trans (hb3.mono HB12.out.size))
 have HB3 := hid (HB1.out.trans (HB13.out.mono HB1.out.size))
 obtain ⟨c3, c2, c5, f5⟩ := CC.out w3 HB3.out
 have A3 := hid (AD.out w1 w3 _ HP1.out HB1.out HB13.out)
 clear hb3 N2 HB12 AD c3 c2
 go_wp2_with fail
 refine A3.out.mono ?_
 rintro e w5 ⟨rfl, h5⟩
 have H5 := hid h5
 clear h5 A3
 go_wp2_with fail
 go_ret2
 exact ⟨rfl, H5.out⟩
end
end Dw
end Go.Proofs.YthadfdbkkmmgoaaGreatDoor
