/- A part of the proof. -/
import Derived.Test.YthadfdbkkmmgoaaGreatDoorMan
set_option maxHeartbeats 6400000
namespace Go.Proofs.YthadfdbkkmmgoaaGreatDoor
namespace Dw
open Go.RowKit Go.Shelf Go.Maps
open At (St bAl zaa zab zac lst zlf)
open Sc (Cmp zah)
open Rs (Prt Prts PRow okW)
open Go.Proofs.YthadfdbkkmmgoaaGreatDoor.Or (Od OP doA zba zfb zjd bp runA zet zid stA)
open Co (I64)
open Wo (AP WK dfP)
theorem ybf (m c : Nat) : (((m : Int) / 2 ^ c).tmod 2 == 1) = m.testBit c := by
 have e : (m : Int) / 2 ^ c = ((m / 2 ^ c : Nat) : Int) := by simp
 rw [e, Nat.testBit_eq_decide_div_mod_eq]
 have e2 : (((m / 2 ^ c : Nat) : Int)).tmod 2 = ((m / 2 ^ c % 2 : Nat) : Int) := rfl
 rw [e2]
 by_cases h : m / 2 ^ c % 2 = 1
 ·rw [h]; rfl
 rw [decide_eq_false h]
 exact beq_eq_false_iff_ne.2 (by omega)
theorem zog {ops : Array Oper} {o : Oper} {a : Act} {K : Act -> World -> Prop} {Q : Exit -> Act -> World -> Prop} {E : Prop} (hgd : o.guard = none) (s x : Operand)
  (ho : o.op = .call { callee := .builtin .append, args := #[s, x], argTypes := #[84, 84] }) {B pb : Nat} {w0 wc : World} {v : Value} {l : List Prt} {p : Prt} (hown : Prts B w0 v l) (hl : l.length <= 1000) (hB : B <= w0.heap.size) (hb : Below w0.heap.size w0 wc) (hpb : wc.heap[pb]? = some (.cells p.arr 89 (0, 0)))
  (hs : a.eval s = v) (hx : a.eval x = .slice (some ⟨pb, 0, none⟩) 1 1)
  (h : ∀ a' c' w2, Hid (Prts B w2 (.slice a' (l.length + 1) c') (l ++ [p]) /\ St (fun x => v.ownBlock = some x) w0 w2) -> K (a.put o.dst (.slice a' (l.length + 1) c')) w2) :
  if Region.wanted o (yielded ops a.tmps) = true then Oper.wp Tryz.prog o a wc K Q else E := by
 refine So.zru hgd s x ho (hown.later hb) hl (Nat.le_trans hB hb.size) hpb hs hx fun v' w2 q1 q2 q3 => ?_
 obtain ⟨a', c', e⟩ := q1.out.slice
 rw [List.length_append, List.length_singleton] at e
 subst e
 exact h a' c' w2 ⟨q1.out, (St.of_below hb).trans q2.out fun _ _ q => q⟩
theorem zgu {P Q : Nat -> Prop} {a b : World} (h : St P a b) (hi : ∀ y, P y -> Q y) : St Q a b := Wo.zbi h fun y _ q => hi y q
section
variable {Z : World} {S S' T : Nat -> Prop} {W W' : World} {b b2 : Nat} {va vb va2 vb2 lv lv2 gv2 : Value} {x : OP} {cs : List Cmp} {k : WK} {a : AP}
set_option maxRecDepth 100000 in
theorem zvd (hu : Du Z S W b va vb lv x) (hd : Dm Z S' W b2 va2 vb2 lv2 gv2 (dw cs k.most a)) (hxc : x.cs = cs) (hkc : k.x.cs = cs) (hvb : ∃ a l c, vb2 = .slice a l c) (hws : cs.map (fun c => c.wd) = k.ws.map fun (w : Nat) => (w : Int)) (hok : k.ok) (how : okW k.ws) (hm64 : k.most <= 64) (hA : okA k a) (hfr : I64 a.fr) (hcan : ∀ y ∈ x.L, y.can cs.length = true) (hl : x.L.length <= 900) (hn : a.n + x.L.length <= 1073741824) (hS : ¬ S b2) (hS' : ¬ S' b) :
  Calls Tryz.prog 18 #[.pointer (some ⟨b, 0, none⟩), .pointer (some ⟨b2, 0, none⟩)] W fun e W' => e = .returned (.tuple #[.int .i64 ((runA k a x.L).d : Int), .int .i64 ((runA k a x.L).f : Int)]) /\ (∃ lv', Du Z (win S W W') W' b va vb lv' { x with L := [] }) /\ (∃ lv2', Dm Z (win S' W W') W' b2 va2 vb2 lv2' gv2 (dw cs k.most (runA k a x.L).a)) /\ St (fun y => y = b \/ y = b2) W W' := by
 subst hkc
 obtain ⟨la, lc, rfl⟩ := hu.slice
 obtain ⟨ka, kc, hva, -, -⟩ := id hu.kin
 rw [hxc] at hva
 subst hva
 have HCL : Hid (k.x.cs.length <= 16) := hid (by have := hu.few; rw [hxc] at this; exact this)
 have RUN := hid (hA.run hok hfr x.L hcan)
 have DUW : Hid (∀ wr, St (fun y => y = b2) W wr -> Du Z S wr b (.slice ka k.x.cs.length kc) vb (.slice la x.L.length lc) x) := hid fun wr st => hu.kept st (fun y hy e => hS (e ▸ hy)) fun y e => by rw [e]; exact (hd.fin b2 hd.inb).1
 have G0 : Hid (Dgo Z S' W W b2 va2 vb2 gv2 (dw k.x.cs k.most (runA k a (x.L.take 0)).a)) := hid (Dgo.stay hd (Below.refl _ _))
 have hli : (x.L.length : Int) <= 900 := by omega
 have c3 : W.cell? ⟨b, 3, none⟩ = some (.slice la x.L.length lc) := hu.cell (j := 3) rfl
 have HVB := hid hvb
 have HWS := hid hws
 have HOK := hid hok
 have HOW := hid how
 have HM := hid hm64
 have HCAN := hid hcan
 have HN := hid hn
 have HXC := hid hxc
 have HNS2 := hid hS'
 have HBW : Hid (b < W.heap.size) := hid (hu.fin b hu.inb).2
 have HZW : Hid (Z.heap.size <= W.heap.size) := hid hu.bel.size
 have HNS := hid hS
 have HFR := hid hfr
 clear hu hd hvb hws hok how hm64 hA hcan hn hxc hS hS' hfr
 go_enter Tryz.func18, Tryz.ntmps18
 go_wp2_with fail
 go_loopg [6, 7, 8, 9, 10, 11, 12] x.L.length (fun gh d f i _ _ _ _ wr => ∃ q : Nat, q <= x.L.length /\ gh = x.L.length - q /\ d = .int .i64 ((runA k a (x.L.take q)).d : Int) /\ f = .int .i64 ((runA k a (x.L.take q)).f : Int) /\ i = .int .i64 (q : Int) /\ Hid (Dgo Z S' W wr b2 va2 vb2 gv2 (dw k.x.cs k.most (runA k a (x.L.take q)).a)))
 case atStart => exact ⟨0, Nat.zero_le _, rfl, rfl, rfl, rfl, G0.out⟩
 case round =>
  rename World => wr
  obtain ⟨q, hq, rfl, rfl, rfl, rfl, HG⟩ := hrel
  clear G0 c3
  have c3 : wr.cell? ⟨b, 3, none⟩ = some (.slice la x.L.length lc) := (DUW.out wr HG.out.2).cell (j := 3) rfl
  by_cases hlt : q < x.L.length
  ·have hki : (q : Int) < (x.L.length : Int) := by omega
   obtain ⟨y, hy⟩ := zal x.L q hlt
   obtain ⟨g, e0, f4⟩ := (DUW.out wr HG.out.2).row.at hy
   subst e0
   obtain ⟨x0, x1, x2, x3⟩ := f4
   have hyc := HCAN.out y (List.mem_of_getElem? hy)
   obtain ⟨w3, hw3⟩ : ∃ w3, w3 = wr.alloc (.cells #[.int .i64 y.k, .int .i64 y.id, .int .u32 (y.m : Int), .int .i64 y.c] 48) := ⟨_, rfl⟩
   have b3 : Below wr.heap.size wr w3 := by rw [hw3]; exact bAl _ _
   have r3 : w3.heap[wr.heap.size]? = some (.cells #[.int .i64 y.k, .int .i64 y.id, .int .u32 (y.m : Int), .int .i64 y.c] 48 (0, 0)) := by rw [hw3]; exact heap_alloc_new wr _
   have HNX := hid (zet (k := k) (a := a) hy)
   have hsum := zid k a (x.L.take q)
   have h9 : (x.L.take q).length <= q := List.length_take_le _ _
   have hnq := (Or.zxh k a (x.L.take q)).2.1
   have hNN := HN.out
   obtain ⟨OKQ, hfq⟩ := RUN.out q hq
   have hsum' : (runA k a (x.L.take q)).d <= 900 /\ (runA k a (x.L.take q)).f <= 900 := by omega
   have hnA : (runA k a (x.L.take q)).a.n <= 1073741824 := by omega
   have HFQ : Hid (I64 (runA k a (x.L.take q)).a.fr) := hid (by rw [hfq]; exact HFR.out)
   have HW3 := hid hw3
   have HB3 := hid b3
   have HR3 := hid r3
   generalize hra : runA k a (x.L.take q) = ra at *
   obtain ⟨rd, rf, A⟩ := ra
   simp only at hsum' hnA OKQ HFQ HG
   have OKA := hid OKQ
   have HNA := hid hnA
   have CL : Hid (∀ w4, Below w3.heap.size w3 w4 -> St (fun y => y = b2) W w4 /\ ∃ lv', Dm Z (win S' W w4) w4 b2 va2 vb2 lv' gv2 (dw k.x.cs k.most A)) := hid fun w4 hb => by
    have hb4 := HB3.out.trans (hb.mono HB3.out.size)
    exact ⟨((HG.out.later hb4)).2, (HG.out.later hb4).1⟩
   have PO : Hid (∀ w4 w5 x', Below w3.heap.size w3 w4 -> Dgo Z (win S' W w4) w4 w5 b2 va2 vb2 gv2 x' -> Dgo Z S' W w5 b2 va2 vb2 gv2 x') := hid fun w4 w5 x' hb hg => Dgo.then (CL.out w4 hb).1 hg
   have HYC := hid hyc
   have wd : IntKind.i64.wrap ((rd : Int) + 1) = ((rd + 1 : Nat) : Int) := by rw [Bd.zbn (by omega) (by omega)]; omega
   have wf : IntKind.i64.wrap ((rf : Int) + 1) = ((rf + 1 : Nat) : Int) := by rw [Bd.zbn (by omega) (by omega)]; omega
   clear b3 r3 hw3 hyc hsum h9 hnq hNN OKQ hfq hnA hra hy
   go_upto_region 7 with fail
   rw [<- HW3.out]
   clear HW3 x0 x1 x2 x3
   have y0 : w3.cell? ⟨wr.heap.size, 0, none⟩ = some (.int .i64 y.k) := zaa HR3.out rfl
   have y1 : w3.cell? ⟨wr.heap.size, 1, none⟩ = some (.int .i64 y.id) := zaa HR3.out rfl
   have y3 : w3.cell? ⟨wr.heap.size, 3, none⟩ = some (.int .i64 y.c) := zaa HR3.out rfl
   go_upto_block 2 with fail
   go_cut [10, 11, 12] (fun e10 _ _ wx => e10 = .int .i64 (((doA k A y).1 : Nat) : Int) /\ Hid (Dgo Z S' W wx b2 va2 vb2 gv2 (dw k.x.cs k.most (doA k A y).2)))
   case first =>
    by_cases h1 : y.k = 1
    ·have hm : y.m < 2 ^ k.x.cs.length := by
      have := HYC.out
      unfold Od.can at this
      rw [if_pos h1] at this
      simpa using this
     have E : doA k A y = ((A.spawn k (zba k.x.cs y.m A.fr)).1, (A.spawn k (zba k.x.cs y.m A.fr)).2.1) := by unfold doA; rw [if_pos h1]
     have q1 : (y.k == 1) = true := by simp [h1]
     have y2 : w3.cell? ⟨wr.heap.size, 2, none⟩ = some (.int .u32 (y.m : Int)) := zaa HR3.out rfl
     have SPN : Hid (∀ w4 v, Below w3.heap.size w3 w4 -> PRow w4 v (zba k.x.cs y.m A.fr) -> Calls Tryz.prog 54 #[.pointer (some ⟨b2, 0, none⟩), v] w4 fun e w5 => e = .returned (.tuple #[.int .i64 (A.spawn k (zba k.x.cs y.m A.fr)).2.2, .int .i64 (((doA k A y).1 : Nat) : Int)]) /\ Dgo Z S' W w5 b2 va2 vb2 gv2 (dw k.x.cs k.most (doA k A y).2)) := hid fun w4 v hb hv => by
      refine (zgd (k := k) (CL.out w4 hb).2.choose_spec HVB.out HWS.out HOW.out HM.out hv (by have := zjd k.x.cs y.m A.fr; omega) (zfb HOK.out rfl hm) HNA.out OKA.out.n1).mono ?_
      rintro e w5 ⟨rfl, hg⟩
      exact ⟨by rw [E], by rw [E]; exact PO.out w4 w5 _ hb hg⟩
     have CE : Hid (∀ w, Below w3.heap.size w3 w -> w.cell? ⟨b, 0, none⟩ = some (.slice ka k.x.cs.length kc) /\ w.cell? ⟨wr.heap.size, 2, none⟩ = some (.int .u32 (y.m : Int)) /\ w.cell? ⟨b2, 4, none⟩ = some (.int .i64 A.fr) /\ zah w (.slice ka k.x.cs.length kc) k.x.cs) := hid fun w hb => by
      obtain ⟨st, lvq, D⟩ := CL.out w hb
      have U := DUW.out w st
      refine ⟨U.cell (j := 0) rfl, zaa (zab hb (Nat.le_refl _) HR3.out) rfl, D.cell (j := 4) rfl, ?_⟩
      have := U.cmp
      rw [HXC.out] at this
      exact this
     have E' := hid E
     have hcl : (k.x.cs.length : Int) <= 16 := by have := HCL.out; omega
     have LM : Hid (lst 32 y.m = lst k.x.cs.length y.m) := hid (zlf y.m k.x.cs.length hm 32 (by have := HCL.out; omega))
     obtain ⟨w4, hw4⟩ : ∃ w4, w4 = w3.alloc (.cells #[] 89) := ⟨_, rfl⟩
     have P0 : Hid (Prts w3.heap.size w4 (.slice (some ⟨w3.heap.size, 0, none⟩) 0 0) ((lst 0 y.m).map (bp k.x.cs A.fr))) := by
      have := (World.ownsRow_lit w3 #[] 0 (Nat.le_refl _) (Nat.zero_le _) rfl : Prts _ (w3.alloc (.cells #[] 89)) _ [])
      rw [<- hw4] at this
      exact this
     have B4 : Hid (Below w3.heap.size w3 w4) := hid (by rw [hw4]; exact bAl _ _)
     have HW4 := hid hw4
     clear h1 E CL PO DUW RUN HCAN y1 y3 c3 hw4
     go_upto_region 11 with fail
     rw [<- HW4.out]
     clear HW4 y0 y2
     go_wp2_with fail
     go_loopg [11, 12] k.x.cs.length (fun gh lv i wx => ∃ c : Nat, c <= k.x.cs.length /\ gh = k.x.cs.length - c /\ i = .int .i64 (c : Int) /\ Hid (Prts w3.heap.size wx lv ((lst c y.m).map (bp k.x.cs A.fr))) /\ Hid (Below w3.heap.size w3 wx))
     case atStart => exact ⟨0, Nat.zero_le _, rfl, rfl, P0.out, B4.out⟩
     case round =>
      rename World => wx
      obtain ⟨c, hc, rfl, rfl, HL, HB⟩ := hrel
      clear P0 B4
      obtain ⟨d0, d2, d4, dr⟩ := CE.out wx HB.out
      by_cases hlc : c < k.x.cs.length
      ·have hci : (c : Int) < (k.x.cs.length : Int) := by omega
       have hcz : ¬ ((c : Int) < 0) := by omega
       obtain ⟨qc, hqc⟩ := zal k.x.cs c hlc
       obtain ⟨kb, ko, e1, q3, q4, q5, q6⟩ : ∃ kb ko, ka = some ⟨kb, ko, none⟩ /\ wx.cell? ⟨kb, ko + c * 7 + 3, none⟩ = some (.int .i64 qc.d0) /\ wx.cell? ⟨kb, ko + c * 7 + 4, none⟩ = some (.int .i64 qc.d1) /\ wx.cell? ⟨kb, ko + c * 7 + 5, none⟩ = some (.int .i64 qc.d2) /\ wx.cell? ⟨kb, ko + c * 7 + 6, none⟩ = some (.int .i64 qc.d3) := by
        obtain ⟨ka', kc', e, -, dr⟩ := dr
        obtain ⟨rfl, rfl⟩ : ka = ka' /\ kc = kc' := by simpa using e
        rcases dr with dr | ⟨kb, ko, e, dr⟩
        ·rw [dr] at hlc; simp at hlc
        obtain ⟨-, -, -, q3, q4, q5, q6⟩ := dr c qc hqc
        exact ⟨kb, ko, e, q3, q4, q5, q6⟩
       have BPC : Hid (bp k.x.cs A.fr c = dfP (c : Int) qc A.fr) := hid (by unfold bp; rw [hqc])
       have hll : (lst c y.m).length <= c := At.zfu y.m c
       have hl9 : ((lst c y.m).map (bp k.x.cs A.fr)).length <= 1000 := by rw [List.length_map]; have := HCL.out; omega
       have BT := ybf y.m c
       clear hqc dr
       cases htb : y.m.testBit c with
       | true =>
        rw [htb] at BT
        have LS : Hid ((lst (c + 1) y.m).map (bp k.x.cs A.fr) = (lst c y.m).map (bp k.x.cs A.fr) ++ [dfP (c : Int) qc A.fr]) := hid (by rw [<- BPC.out]; have e : lst (c + 1) y.m = lst c y.m ++ [c] := by { show (if _ then _ else _) = _; rw [if_pos htb] }; rw [e, List.map_append]; rfl)
        generalize (lst c y.m).map (bp k.x.cs A.fr) = pl at *
        subst e1
        obtain ⟨oa, oc, rfl⟩ := HL.out.slice
        have h1 := bAl wx (.cells (dfP (c : Int) qc A.fr).arr 89)
        have hsz := HB.out.size
        clear htb BPC
        go_upto_region 15 with fail
        go_region_law (first
         | (refine zog (p := dfP (c : Int) qc A.fr) rfl _ _ rfl HL.out hl9 hsz (by first | exact h1 | exact h1.drew) (by first | exact heap_alloc_new _ _) rfl rfl ?_; intro a6 c6 w6 h6))
        all_goals
         have B6 := hid (HB.out.trans (h6.out.2.below (B := w3.heap.size) (fun z hz => (HL.out.lt z hz).1) hsz))
         have L6 := hid h6.out.1
         clear h6 d0 d2 d4 q3 q4 q5 q6 HL HB h1
         go_wp2_with fail
         go_roundg (k.x.cs.length - (c + 1))
         case measure => omega
         case rel => exact ⟨c + 1, by omega, rfl, by go_num, by rw [LS.out]; exact L6.out, B6.out⟩
       | false =>
        rw [htb] at BT
        have LS : Hid (lst (c + 1) y.m = lst c y.m) := hid (by show (if _ then _ else _) = _; rw [if_neg (by rw [htb]; decide)])
        clear htb BPC
        go_wp2_with fail
        go_roundg (k.x.cs.length - (c + 1))
        case measure => omega
        case rel => exact ⟨c + 1, by omega, rfl, by go_num, by rw [LS.out]; exact HL.out, HB.out⟩
      have hci : ¬ ((c : Int) < (k.x.cs.length : Int)) := by omega
      obtain rfl : c = k.x.cs.length := by omega
      have HL2 : Hid (Prts w3.heap.size wx _ (zba k.x.cs y.m A.fr)) := hid (by unfold zba; rw [LM.out]; exact HL.out)
      obtain ⟨oa, oc, rfl⟩ := HL2.out.slice
      have SP := hid (SPN.out wx _ HB.out HL2.out.row)
      clear SPN dr
      go_wp2_with fail
      refine SP.out.mono ?_
      rintro e w5 ⟨rfl, hg⟩
      have G5 := hid hg
      clear hg SP
      go_wp2_with fail
      go_meet
      exact ⟨rfl, G5.out⟩
    by_cases h2 : y.k = 2
    ·have E : doA k A y = A.zct y.id := by unfold doA; rw [if_neg h1, if_pos h2]
     have DS := hid (zft (CL.out w3 (Below.refl _ _)).2.choose_spec OKA.out.rise y.id)
     have q1 : (y.k == 1) = false := by simp [h1]
     have q2 : (y.k == 2) = true := by simp [h2]
     have E' := hid E
     have P3 := hid fun w5 x' => PO.out w3 w5 x' (Below.refl _ _)
     clear h1 h2 E CL PO DUW RUN HCAN
     go_wp2_with fail
     refine DS.out.mono ?_
     rintro e w5 ⟨rfl, hg⟩
     have G5 := hid (P3.out w5 _ hg)
     clear hg DS P3
     go_wp2_with fail
     go_meet
     exact ⟨by rw [E'.out], by rw [E'.out]; exact G5.out⟩
    by_cases h3 : y.k = 3
    ·have E : doA k A y = A.insert k y.id y.c := by unfold doA; rw [if_neg h1, if_neg h2, if_pos h3]
     have DS := hid (zhj (k := k) rfl (CL.out w3 (Below.refl _ _)).2.choose_spec OKA.out.rise (OKA.out.few HOW.out.1) y.id y.c)
     have q1 : (y.k == 1) = false := by simp [h1]
     have q2 : (y.k == 2) = false := by simp [h2]
     have q3 : (y.k == 3) = true := by simp [h3]
     have E' := hid E
     have P3 := hid fun w5 x' => PO.out w3 w5 x' (Below.refl _ _)
     clear h1 h2 h3 E CL PO DUW RUN HCAN
     go_wp2_with fail
     refine DS.out.mono ?_
     rintro e w5 ⟨rfl, hg⟩
     have G5 := hid (P3.out w5 _ hg)
     clear hg DS P3
     go_wp2_with fail
     go_meet
     exact ⟨by rw [E'.out], by rw [E'.out]; exact G5.out⟩
    have h4 : y.k = 4 := by
     have := HYC.out
     unfold Od.can at this
     rw [if_neg h1] at this
     by_cases e : y.k = 4
     ·exact e
     rw [if_neg (fun q => q.elim h3 e)] at this
     exact absurd (of_decide_eq_true this) h2
    have E : doA k A y = A.zbq y.id y.c := by unfold doA; rw [if_neg h1, if_neg h2, if_neg h3]
    have DS := hid (zho (CL.out w3 (Below.refl _ _)).2.choose_spec OKA.out.rise (OKA.out.few HOW.out.1) y.id y.c)
    have q1 : (y.k == 1) = false := by simp [h1]
    have q2 : (y.k == 2) = false := by simp [h2]
    have q3 : (y.k == 3) = false := by simp [h3]
    have q4 : (y.k == 4) = true := by simp [h4]
    have E' := hid E
    have P3 := hid fun w5 x' => PO.out w3 w5 x' (Below.refl _ _)
    clear h1 h2 h3 h4 E CL PO DUW RUN HCAN
    go_wp2_with fail
    refine DS.out.mono ?_
    rintro e w5 ⟨rfl, hg⟩
    have G5 := hid (P3.out w5 _ hg)
    clear hg DS P3
    go_wp2_with fail
    go_meet
    exact ⟨by rw [E'.out], by rw [E'.out]; exact G5.out⟩
   case rest =>
    rename World => wx
    obtain ⟨rfl, HX⟩ := hcut
    clear CL PO y0 y1 y3 c3
    have hst : stA k ⟨rd, rf, A⟩ y = if (doA k A y).1 = 0 then ⟨rd + 1, rf, (doA k A y).2⟩ else ⟨rd, rf + 1, (doA k A y).2⟩ := rfl
    by_cases hz : (doA k A y).1 = 0
    ·rw [if_pos hz] at hst
     have HNZ : Hid (runA k a (x.L.take (q + 1)) = ⟨rd + 1, rf, (doA k A y).2⟩) := hid (by rw [HNX.out, hst])
     rw [hz]
     clear hst hz HNX
     go_wp2_with fail
     go_roundg (x.L.length - (q + 1))
     case measure => omega
     case rel => exact ⟨q + 1, by omega, rfl, by rw [HNZ.out]; go_num, by rw [HNZ.out], by go_num, by rw [HNZ.out]; exact HX.out⟩
    rw [if_neg hz] at hst
    have HNZ : Hid (runA k a (x.L.take (q + 1)) = ⟨rd, rf + 1, (doA k A y).2⟩) := hid (by rw [HNX.out, hst])
    have hzb : (((doA k A y).1 : Int) == 0) = false := beq_eq_false_iff_ne.2 (by omega)
    have hzi : ¬ (((doA k A y).1 : Int) = 0) := by omega
    generalize (doA k A y).1 = er at *
    clear hst HNX
    go_wp2_with fail
    go_roundg (x.L.length - (q + 1))
    case measure => omega
    case rel => exact ⟨q + 1, by omega, rfl, by rw [HNZ.out], by rw [HNZ.out]; go_num, by go_num, by rw [HNZ.out]; exact HX.out⟩
  have hki : ¬ ((q : Int) < (x.L.length : Int)) := by omega
  have e1 : x.L.take q = x.L := by rw [show q = x.L.length by omega]; exact List.take_length
  rw [e1] at HG ⊢
  have DU := DUW.out wr HG.out.2
  have f3 := zac DU.box 3
  have FIN : Hid ((∃ lv', Du Z (win S W (wr.setCell ⟨b, 3, none⟩ (.slice none 0 0))) (wr.setCell ⟨b, 3, none⟩ (.slice none 0 0)) b (.slice ka k.x.cs.length kc) vb lv' { x with L := [] }) /\ (∃ lv2', Dm Z (win S' W (wr.setCell ⟨b, 3, none⟩ (.slice none 0 0))) (wr.setCell ⟨b, 3, none⟩ (.slice none 0 0)) b2 va2 vb2 lv2' gv2 (dw k.x.cs k.most (runA k a x.L).a)) /\ St (fun y => y = b \/ y = b2) W (wr.setCell ⟨b, 3, none⟩ (.slice none 0 0))) := hid (by
   obtain ⟨q1, q2⟩ := DU.set (x' := { x with L := [] }) (lv' := .slice none 0 0) (j := 3) (v := .slice none 0 0) rfl rfl (Or.zin _ _) (fun z hz => by simp [Value.ownBlock] at hz)
   obtain ⟨⟨lv', D⟩, st⟩ := HG.out
   have es : (wr.setCell ⟨b, 3, none⟩ (.slice none 0 0)).heap.size = wr.heap.size := by simp
   refine ⟨⟨_, q1.more (fun _ => zbr) fun z hz => ?_⟩, ⟨lv', ?_⟩, (zgu st fun z e => .inr e).trans (zgu q2 fun z e => .inl e) fun _ _ q => q⟩
   ·rcases hz with r | r
    ·exact q1.fin z r
    rw [es] at r ⊢
    have := DU.bel.size
    have := st.size
    have hWZ := (DU.fin b DU.inb).1
    exact ⟨by have := HZW.out; omega, r.2⟩
   have D2 := D.kept (T := fun y => y = b) q2 (fun z hz e => ?_) (fun z e => by rw [e]; exact (DU.fin b DU.inb).1)
   ·unfold win at D2 ⊢
    rw [es]
    exact D2
   subst e
   rcases hz with r | r
   ·exact HNS2.out r
   have := HBW.out; omega)
  clear DU
  go_wp2_with fail
  go_ret2
  exact ⟨rfl, FIN.out⟩
end
end Dw
namespace Dw
open Go.RowKit Go.Shelf Go.Maps
open At (St bAl zaa zac)
open Sc (Cmp Rsc zah zaw zbu zbv zak)
open Wo (Ed AP WK Wa)
theorem zzc {Ad : Nat -> Addr} {w : World} {v : Value} {K n : Nat} (hE : Env w Ad) (h : Ed Ad w v K n) (hn : n <= 1000) : Calls Tryz.prog 14 #[v] w fun e w' => e = .returned (.int .i64 (K : Int)) /\ Below w.heap.size w w' := by
 rcases h with ⟨rfl, rfl⟩ | ⟨h0, t, q, rfl, d, ⟨ws, h3⟩, h4⟩
 ·exact (zuy w).mono fun _ _ ⟨q1, q2⟩ => ⟨q1, by rw [q2]; exact Below.refl _ _⟩
 have := zpz Ad _ [(ws, K)] _ w hE h3.tr (by omega) ⟨t, q, rfl⟩
 have hk := h3.2
 simp only at hk
 obtain ⟨j, rfl⟩ : ∃ j, K = j + 1 := ⟨K - 1, by omega⟩
 rw [show ([(ws, j + 1)].map Prod.snd) = [j + 1] from rfl, zxw j (by omega)] at this
 exact this
section
variable {B : Nat} {G : Wo.Own} {W : World} {wb : Nat} {k : WK} {t : Nat} {a : AP} {Ad : Nat -> Addr}
set_option maxRecDepth 100000 in
theorem zzg (h : Wa B G W wb k t a) (hE : Env8 W Ad) (hf : a.fr < 1073741824) :
  Calls Tryz.prog 20 #[.pointer (some ⟨wb, 0, none⟩)] W fun e W' => e = .returned .nilIface /\ Wa B G W' wb k t { a with fr := a.fr + 1 } /\ St (fun j => G j ≠ 0) W W' := by
 obtain ⟨p, hd, h1, h2, h3, h4, h5, h6, h7, h8⟩ := id h.ex
 have c7 : W.cell? ⟨wb, 7, none⟩ = some (.int .i64 p.fr) := hd.z.cell (j := 7) rfl
 have hf0 := hd.z.fr0
 have NT := hid (Wo.zch hd.z hE 9 0 0 0 0 0 0 0 none 0 0 0 p.fr)
 unfold Wo.uV at NT
 have CC : Hid (∀ w, Below W.heap.size W w -> w.cell? ⟨wb, 7, none⟩ = some (.int .i64 p.fr) /\ w.frozen? ⟨wb, 7, none⟩ = false) := hid fun w hb => ⟨(hd.z.later hb).cell (j := 7) rfl, zac (hd.z.later hb).box 7⟩
 have FIN : Hid (∀ w, Below W.heap.size W w -> Wa B G (w.setCell ⟨wb, 7, none⟩ (.int .i64 (p.fr + 1))) wb k t { a with fr := a.fr + 1 } /\ St (fun j => G j ≠ 0) W (w.setCell ⟨wb, 7, none⟩ (.int .i64 (p.fr + 1)))) := hid fun w hb => by
  obtain ⟨q1, q2⟩ := (hd.z.later hb).own (p' := { p with fr := p.fr + 1 }) (j := 7) (v := .int .i64 (p.fr + 1)) rfl rfl rfl rfl rfl rfl ⟨by show 0 <= p.fr + 1; omega, by show p.fr + 1 <= 1073741824; omega⟩ rfl
  exact ⟨⟨⟨_, ⟨q1, hd.lv⟩, h1, h2, h3, h4, h5, by show p.fr + 1 = a.fr + 1; omega, h7, h8⟩, h.ok⟩, (St.of_below (S := fun j => G j ≠ 0) hb).trans (Wo.zbi q2.st fun j _ e => by show G j ≠ 0; rw [e]; decide) fun _ _ q => q⟩
 have hw : IntKind.i64.wrap (p.fr + 1) = p.fr + 1 := Bd.zbn (by omega) (by omega)
 have hne : (p.fr == 1073741824) = false := beq_eq_false_iff_ne.2 (by omega)
 clear h hE hd h1 h2 h3 h4 h5 h6 h7 h8 hf hf0
 go_enter Tryz.func20, Tryz.ntmps20
 go_wp2_with fail
 refine NT.out.mono ?_
 rintro e w1 ⟨rfl, hb⟩
 obtain ⟨d7, f7⟩ := CC.out w1 hb
 have FN := hid (FIN.out w1 hb)
 clear hb NT FIN CC c7
 go_wp2_with fail
 go_ret
 exact ⟨rfl, FN.out.1, FN.out.2⟩
end
set_option maxRecDepth 100000 in
theorem z2q (Ad : Nat -> Addr) (w : World) (va vb : Value) (cs : List Cmp) (rs : List Rsc) (hE : Env8 w Ad) (hC : zah w va cs) (hQ : zaw w vb rs) (hsC : zbu cs) (hsQ : zbv rs) (m : Int) (hn : ¬ (zak cs rs = [] /\ 0 <= m /\ m <= 64)) :
    Calls Tryz.prog 8 #[.agg #[va, vb], .int .i64 m] w fun e w' => ∃ t q, e = .returned (.tuple #[.pointer none, .iface t q]) /\ (zak cs rs = [] -> Ed Ad w' (.iface t q) 1 1) /\ Below w.heap.size w w' := by
  obtain ⟨w0, hw0⟩ : ∃ w0, w0 = w.alloc (.cells #[va, vb] 25) := ⟨_, rfl⟩
  have b0 : Below w.heap.size w w0 := by rw [hw0]; exact bAl _ _
  have r0 : w0.heap[w.heap.size]? = some (.cells #[va, vb] 25 (0, 0)) := by rw [hw0]; exact heap_alloc_new w _
  have CK := hid (Sc.zbl Ad w0 va vb cs rs (hE.later b0) (hC.later b0) (hQ.later b0) hsC hsQ)
  have c1 := hid fun (w' : World) (hb : Below w.heap.size w w') => (hE.later hb).k1
  have AE := hid fun (w' : World) (s : ByteArray) => Wo.zia s (Ed.leaf Ad w' 1 (by decide)) (by decide)
  obtain ⟨a, c, rfl, hcap, -⟩ := hC
  obtain ⟨a', c', rfl, hcap', -⟩ := hQ
  have x0 : w0.cell? ⟨w.heap.size, 0, none⟩ = some (.slice a cs.length c) := zaa r0 rfl
  have x1 : w0.cell? ⟨w.heap.size, 1, none⟩ = some (.slice a' rs.length c') := zaa r0 rfl
  have HW0 := hid hw0
  have B0 := hid b0
  clear hE hsC hsQ hw0 b0 r0 hcap hcap'
  by_cases hck : zak cs rs = []
  · rw [hck] at CK
    have hm : m < 0 \/ 64 < m := by
      rcases Int.lt_or_le m 0 with q | q
      · exact .inl q
      rcases Int.lt_or_le 64 m with r | r
      · exact .inr r
      exact absurd ⟨hck, q, r⟩ hn
    clear hn
    rcases hm with h0 | h0
    all_goals
      have h1 : m < 0 \/ ¬ m < 0 := Classical.em _
      have HM := hid h0
      go_enter Tryz.func8, Tryz.ntmps8
      go_upto_region 1 with fail
      rw [<- HW0.out]
      go_wp2_with fail
      refine CK.out.mono ?_
      rintro e w1 ⟨v1, rfl, ht, hb⟩
      obtain rfl := So.ziz ht
      have BB := hid (B0.out.trans (hb.mono B0.out.size))
      have k1 := c1.out w1 BB.out
      have AE1 := hid (AE.out w1)
      clear CK ht hb x0 x1 AE c1
      first
        | (go_wp2_with fail
           refine (AE1.out _).mono ?_
           rintro e w2 ⟨t, q, rfl, he, hb2⟩
           have HE := hid he
           have B2 := hid (BB.out.trans (hb2.mono BB.out.size))
           clear he hb2 AE1
           go_wp2_with fail
           go_ret2
           exact ⟨t, q, rfl, fun _ => HE.out, B2.out⟩)
        | (have h2 : ¬ m < 0 := by (have := HM.out; omega)
           go_wp2_with fail
           refine (AE1.out _).mono ?_
           rintro e w2 ⟨t, q, rfl, he, hb2⟩
           have HE := hid he
           have B2 := hid (BB.out.trans (hb2.mono BB.out.size))
           clear he hb2 AE1
           go_wp2_with fail
           go_ret2
           exact ⟨t, q, rfl, fun _ => HE.out, B2.out⟩)
  have HCK := hid hck
  clear hn AE c1
  go_enter Tryz.func8, Tryz.ntmps8
  go_upto_region 1 with fail
  rw [<- HW0.out]
  go_wp2_with fail
  refine CK.out.mono ?_
  rintro e w1 ⟨v1, rfl, ht, hb⟩
  obtain ⟨t, q, rfl⟩ : ∃ t q, v1 = .iface t q := by
    rcases ht.tr.isIface with rfl | q
    · exfalso
      refine HCK.out ?_
      rcases ht with ⟨-, q⟩ | ⟨p, -, q⟩ | ⟨b, vs, q, -⟩
      · exact q
      · obtain ⟨t, q', e, _⟩ := q.1.shape; cases e
      cases q
    exact q
  have BB := hid (B0.out.trans (hb.mono B0.out.size))
  clear CK ht hb x0 x1
  go_wp2_with fail
  go_ret2
  exact ⟨t, q, rfl, fun e => absurd e HCK.out, BB.out⟩
end Dw
namespace Dw
open Go.RowKit Go.Shelf Go.Maps
open At (St zac)
open Sc (zah)
open Rs (okW)
open Go.Proofs.YthadfdbkkmmgoaaGreatDoor.Or (Od OP Pr Bs runA zpt zmh znp zwa)
open Wo (Ed Ev AP WK)
section
variable {Z : World} {S S' T : Nat -> Prop} {W W' : World} {b : Nat} {va vb lv gv : Value} {x : DW} {y : OP}
theorem Dm.base {Z0 : World} (h : Dm Z S W b va vb lv gv x) (hk : zah Z0 va x.cs) (hb : Below Z0.heap.size Z0 W) (hz : Z0.heap.size <= Z.heap.size) : Dm Z0 S W b va vb lv gv x :=
 ⟨h.box, h.inb, fun y hy => ⟨Nat.le_trans hz (h.fin y hy).1, (h.fin y hy).2⟩, hk, hb, h.few, h.be, h.gd, h.l64⟩
theorem Du.base {Z0 : World} (h : Du Z S W b va vb lv y) (hk : zah Z0 va y.cs) (hb : Below Z0.heap.size Z0 W) (hz : Z0.heap.size <= Z.heap.size) : Du Z0 S W b va vb lv y :=
 ⟨h.box, h.inb, fun y hy => ⟨Nat.le_trans hz (h.fin y hy).1, (h.fin y hy).2⟩, hk, hb, h.few, h.row, h.own⟩
theorem Dm.zlt (h : Dm Z S W b va vb lv gv x) (hs : St T W W') (hT : ∀ y, S y -> ¬ T y) (hz : ∀ y, T y -> Z.heap.size <= y) : Dm Z (win S W W') W' b va vb lv gv x :=
 (h.kept hs hT hz).more (fun _ => zbr) fun y hy => by
  rcases hy with q | q
  ·exact (h.kept hs hT hz).fin y q
  have := h.bel.size; omega
theorem Du.zlt (h : Du Z S W b va vb lv y) (hs : St T W W') (hT : ∀ y, S y -> ¬ T y) (hz : ∀ y, T y -> Z.heap.size <= y) : Du Z (win S W W') W' b va vb lv y :=
 (h.kept hs hT hz).more (fun _ => zbr) fun y hy => by
  rcases hy with q | q
  ·exact (h.kept hs hT hz).fin y q
  have := h.bel.size; omega
end
structure Bt (Z : World) (B : Nat) (kv : Value) (wb ob ub db : Nat) (va vb gv : Value) (k : WK) (t : Nat) (ap : AP) (xp : OP) (ad : AP) (xd : OP) (w : World) : Prop where
 ex : ∃ G H ov S S' lv lv2, Pr B G H w wb ob kv ov k t ap xp /\ Du Z S w ub va vb lv xd /\ Dm Z S' w db va vb lv2 gv (dw k.x.cs k.most ad) /\ (∀ y, S y \/ S' y -> G y = 0 /\ H y = 0) /\ ¬ S db /\ ¬ S' ub
 zb : Z.heap.size <= B
section
variable {Z w w' : World} {B : Nat} {kv : Value} {wb ob ub db : Nat} {va vb gv : Value} {k : WK} {t t' : Nat} {ap ap' ad ad' a : AP} {xp xp' xd xd' x : OP} {Ad : Nat -> Addr}
theorem Bt.later (h : Bt Z B kv wb ob ub db va vb gv k t ap xp ad xd w) (hb : Below w.heap.size w w') : Bt Z B kv wb ob ub db va vb gv k t ap xp ad xd w' := by
 obtain ⟨⟨G, H, ov, S, S', lv, lv2, h1, h2, h3, h4, h5, h6⟩, hz⟩ := h
 exact ⟨⟨G, H, ov, S, S', lv, lv2, h1.later hb, h2.later hb, h3.later hb, h4, h5, h6⟩, hz⟩
theorem Bt.bel (h : Bt Z B kv wb ob ub db va vb gv k t ap xp ad xd w) : Below Z.heap.size Z w := by
 obtain ⟨⟨G, H, ov, S, S', lv, lv2, h1, h2, h3, h4, h5, h6⟩, hz⟩ := h
 exact h2.bel
theorem Bt.prog (h : Bt Z B kv wb ob ub db va vb gv k t ap xp ad xd w) : ∃ G H ov, Pr B G H w wb ob kv ov k t ap xp /\ ∀ (G' H' : Wo.Own) (ov' : Value) (t' : Nat) (ap' : AP) (xp' : OP) (w' : World), Pr B G' H' w' wb ob kv ov' k t' ap' xp' -> Bs G H G' H' w w' -> Bt Z B kv wb ob ub db va vb gv k t' ap' xp' ad xd w' := by
 obtain ⟨⟨G, H, ov, S, S', lv, lv2, h1, h2, h3, h4, h5, h6⟩, hz⟩ := h
 refine ⟨G, H, ov, h1, fun G' H' ov' t' ap' xp' w' p s => ⟨⟨G', H', ov', S, S', lv, lv2, p, ?_, ?_, fun y hy => ?_, h5, h6⟩, hz⟩⟩
 ·exact h2.kept s.st (fun y hy e => by have := h4 y (.inl hy); omega) fun y e => by rcases e with e | e; have := (h1.wa.fin y e).1; omega; have := (h1.oz.fin y e).1; omega
 ·exact h3.kept s.st (fun y hy e => by have := h4 y (.inr hy); omega) fun y e => by rcases e with e | e; have := (h1.wa.fin y e).1; omega; have := (h1.oz.fin y e).1; omega
 have hl : y < w.heap.size := by rcases hy with q | q; exact (h2.fin y q).2; exact (h3.fin y q).2
 rw [s.og y hl, s.oh y hl]
 exact h4 y hy
theorem Bt.doc (h : Bt Z B kv wb ob ub db va vb gv k t ap xp ad xd w) : ∃ S S' lv lv2, Du Z S w ub va vb lv xd /\ Dm Z S' w db va vb lv2 gv (dw k.x.cs k.most ad) /\ ¬ S db /\ ¬ S' ub /\ ∀ (xd' : OP) (ad' : AP) (w' : World), (∃ lv', Du Z (win S w w') w' ub va vb lv' xd') -> (∃ lv', Dm Z (win S' w w') w' db va vb lv' gv (dw k.x.cs k.most ad')) -> St (fun y => y = ub \/ y = db) w w' -> Bt Z B kv wb ob ub db va vb gv k t ap xp ad' xd' w' := by
 obtain ⟨⟨G, H, ov, S, S', lv, lv2, h1, h2, h3, h4, h5, h6⟩, hz⟩ := h
 refine ⟨S, S', lv, lv2, h2, h3, h5, h6, fun xd' ad' w' ⟨lv', q1⟩ ⟨lv2', q2⟩ st => ⟨⟨G, H, ov, win S w w', win S' w w', lv', lv2', h1.beside st (fun j hj e => ?_) (fun j hj e => ?_), q1, q2, fun y hy => ?_, fun e => ?_, fun e => ?_⟩, hz⟩⟩
 ·rcases e with rfl | rfl
  ·exact hj (h4 _ (.inl h2.inb)).1
  exact hj (h4 _ (.inr h3.inb)).1
 ·rcases e with rfl | rfl
  ·exact hj (h4 _ (.inl h2.inb)).2
  exact hj (h4 _ (.inr h3.inb)).2
 ·have hn : ∀ y, w.heap.size <= y -> G y = 0 /\ H y = 0 := fun y hy => ⟨Classical.byContradiction fun e => by have := (h1.wa.fin y e).2; omega, Classical.byContradiction fun e => by have := (h1.oz.fin y e).2; omega⟩
  rcases hy with (q | q) | (q | q)
  ·exact h4 y (.inl q)
  ·exact hn y q.1
  ·exact h4 y (.inr q)
  exact hn y q.1
 ·rcases e with e | e
  ·exact h5 e
  have := (h3.fin db h3.inb).2; omega
 rcases e with e | e
 ·exact h6 e
 have := (h2.fin ub h2.inb).2; omega
theorem Bt.docU (h : Bt Z B kv wb ob ub db va vb gv k t ap xp ad xd w) : ∃ S lv, Du Z S w ub va vb lv xd /\ ∀ (xd' : OP) (w' : World), Ugo Z S w w' ub va vb xd' -> Bt Z B kv wb ob ub db va vb gv k t ap xp ad xd' w' := by
 obtain ⟨S, S', lv, lv2, h2, h3, h5, h6, q⟩ := h.doc
 refine ⟨S, lv, h2, fun xd' w' hu => q xd' ad w' hu.1 ⟨lv2, h3.zlt hu.2 (fun y hy e => h6 (e ▸ hy)) fun y e => by rw [e]; exact (h2.fin ub h2.inb).1⟩ (zgu hu.2 fun y e => .inl e)⟩
theorem Bt.docD (h : Bt Z B kv wb ob ub db va vb gv k t ap xp ad xd w) : ∃ S' lv2, Dm Z S' w db va vb lv2 gv (dw k.x.cs k.most ad) /\ ∀ (ad' : AP) (w' : World), Dgo Z S' w w' db va vb gv (dw k.x.cs k.most ad') -> Bt Z B kv wb ob ub db va vb gv k t ap xp ad' xd w' := by
 obtain ⟨S, S', lv, lv2, h2, h3, h5, h6, q⟩ := h.doc
 refine ⟨S', lv2, h3, fun ad' w' hu => q xd ad' w' ⟨lv, h2.zlt hu.2 (fun y hy e => h5 (e ▸ hy)) fun y e => by rw [e]; exact (h3.fin db h3.inb).1⟩ hu.1 (zgu hu.2 fun y e => .inr e)⟩
theorem ybd (h : Bt Z B kv wb ob ub db va vb gv k t ap x ad xd w) (hE : Ev B w Ad) (y : Od) (hy : y.ok) (hl : x.L.length < 900) (hd : x.dr < 1000000) : Calls Tryz.prog 15 #[.pointer (some ⟨ob, 0, none⟩), .agg #[.int .i64 y.k, .int .i64 y.id, .int .u32 (y.m : Int), .int .i64 y.c]] w fun e w' => ∃ v, e = .returned v /\ Ed Ad w' v (addU x y).1 2 /\ Bt Z B kv wb ob ub db va vb gv k t ap (addU x y).2 ad xd w' := by
 obtain ⟨G, H, ov, p, q⟩ := h.prog
 unfold addU
 cases hc : y.can x.cs.length with
 | false =>
  refine (zpt p.oz hE.env y hy hc).mono ?_
  rintro e w' ⟨v, rfl, he, hb⟩
  exact ⟨v, rfl, he, h.later hb⟩
 | true =>
  rw [if_pos rfl]
  have hn := p.oz.n0
  by_cases hf : x.most <= x.gv
  ·rw [if_pos hf]
   refine (zmh p.oz hE y hy hc (by omega) hd).mono ?_
   rintro e w' ⟨b, s, rfl, ⟨hb1, hb2⟩, ho, hu⟩
   obtain ⟨r1, r2⟩ := p.turn hu ho rfl
   exact ⟨_, rfl, (zwa hb2 (by decide)).up, q _ _ _ _ _ _ _ r1 r2⟩
  rw [if_neg hf]
  refine (znp p.oz hE y hy hc (by omega) hl).mono ?_
  rintro e w' ⟨rfl, H', ov', ho, hu⟩
  obtain ⟨r1, r2⟩ := p.turn hu ho rfl
  exact ⟨_, rfl, Ed.no Ad w' 2, q _ _ _ _ _ _ _ r1 r2⟩
theorem z7r (h : Bt Z B kv wb ob ub db va vb gv k t ap xp ad x w) (y : Od) (hl : x.L.length < 900) (hg : 0 <= x.gv /\ x.gv <= 64) (hd : 0 <= x.dr /\ x.dr <= 1000000) : Calls Tryz.prog 16 #[.pointer (some ⟨ub, 0, none⟩), .agg #[.int .i64 y.k, .int .i64 y.id, .int .u32 (y.m : Int), .int .i64 y.c]] w fun e w' => e = .returned (.int .i64 (((addU x y).1 : Nat) : Int)) /\ Bt Z B kv wb ob ub db va vb gv k t ap xp ad (addU x y).2 w' /\ St (fun y => y = ub) w w' := by
 obtain ⟨S, lv, h2, q⟩ := h.docU
 refine (z2m h2 y hl hg hd).mono ?_
 rintro e w' ⟨rfl, hu⟩
 exact ⟨rfl, q _ _ hu, hu.2⟩
theorem zwv {Ad : Nat -> Addr} {N n₀ k : Nat} {W W' : World} {S : Nat -> Prop} (hs : ∀ b, b < n₀ -> ¬ S b -> W'.heap[b]? = W.heap[b]?) (hn : ∀ b, S b -> ∀ str, W.cell? ⟨b, 0, none⟩ ≠ some (.string str)) (hN : n₀ <= N) : ∀ {ws : List ByteArray} {v : Value}, Ch Ad n₀ W k ws v -> Ch Ad N W' k ws v
 | [], _, hc => hc
 | _ :: _, _, ⟨b, inner, hv, hb, c0, c1, hi⟩ => by
  have e : W'.heap[b]? = W.heap[b]? := hs b hb fun q => hn b q _ c0
  refine ⟨b, inner, hv, by omega, ?_, ?_, zwv hs hn hN hi⟩
  ·rw [<- c0]; simp only [World.cell?, e]
  rw [<- c1]; simp only [World.cell?, e]
theorem z7h {v : Value} {K n b : Nat} {c : Array Value} {ty : TypeId} (h : Ed Ad w v K n) (hb : w.heap[b]? = some (.cells c ty (0, 0))) (hc : ∀ s, c[0]? ≠ some (.string s)) (hs : St (fun y => y = b) w w') : Ed Ad w' v K n := by
 rcases h with h | ⟨h0, tt, q, rfl, d, ⟨ws, h3, h5⟩, h4⟩
 ·exact .inl h
 refine .inr ⟨h0, tt, q, rfl, d, ⟨ws, zwv (S := fun k => k = b) (fun x hx hn => hs.block x hx hn) (fun x hx str e => ?_) hs.size h3, h5⟩, h4⟩
 subst hx
 have : c[0]? = some (.string str) := by
  unfold World.cell? at e
  rw [hb] at e
  simpa using e
 exact hc str this
theorem Bt.ubox (h : Bt Z B kv wb ob ub db va vb gv k t ap xp ad xd w) (hva : ∃ a n c, va = .slice a n c) : ∃ c, w.heap[ub]? = some (.cells c 62 (0, 0)) /\ ∀ s, c[0]? ≠ some (.string s) := by
 obtain ⟨S, lv, h2, -⟩ := h.docU
 obtain ⟨a, n, c, rfl⟩ := hva
 exact ⟨_, h2.box, fun s e => by simp [Dw.ubox] at e⟩
theorem z3g (h : Bt Z B kv wb ob ub db va vb gv k t a x ad xd w) (hE : Ev B w Ad) (ht : t + x.L.length <= 900) (hn : a.n + x.L.length <= 1073741824) :
  Calls Tryz.prog 17 #[.pointer (some ⟨ob, 0, none⟩), .pointer (some ⟨wb, 0, none⟩)] w fun e w' => e = .returned (.tuple #[.agg #[.int .i64 ((runA k a x.L).d : Int), .int .i64 ((runA k a x.L).f : Int)], .nilIface]) /\ Bt Z B kv wb ob ub db va vb gv k (t + x.L.length) (runA k a x.L).a { x with L := [] } ad xd w' := by
 obtain ⟨G, H, ov, p, q⟩ := h.prog
 refine (Or.zmx p hE ht hn).mono ?_
 rintro e w' ⟨rfl, G', H', ov', p', s⟩
 exact ⟨rfl, q _ _ _ _ _ _ _ p' s⟩
structure Kf (k : WK) (vb : Value) : Prop where
 ok : k.ok
 vb : ∃ a l c, vb = .slice a l c
 ws : k.x.cs.map (fun c => c.wd) = k.ws.map fun (w : Nat) => (w : Int)
 w : okW k.ws
 m64 : k.most <= 64
theorem zwd (h : Bt Z B kv wb ob ub db va vb gv k t ap xp a x w) (hk : Kf k vb) (hc : x.cs = k.x.cs) (hA : okA k a) (hf : Co.I64 a.fr) (hcan : ∀ y ∈ x.L, y.can k.x.cs.length = true) (hl : x.L.length <= 900) (hn : a.n + x.L.length <= 1073741824) :
  Calls Tryz.prog 18 #[.pointer (some ⟨ub, 0, none⟩), .pointer (some ⟨db, 0, none⟩)] w fun e w' => e = .returned (.tuple #[.int .i64 ((runA k a x.L).d : Int), .int .i64 ((runA k a x.L).f : Int)]) /\ Bt Z B kv wb ob ub db va vb gv k t ap xp (runA k a x.L).a { x with L := [] } w' /\ ∀ (y : Nat) (c : Array Value), w.heap[y]? = some (.cells c 55 (0, 0)) -> w'.heap[y]? = some (.cells c 55 (0, 0)) := by
 obtain ⟨S, S', lv, lv2, h2, h3, h5, h6, q⟩ := h.doc
 refine (zvd h2 h3 hc rfl hk.vb hk.ws hk.ok hk.w hk.m64 hA hf hcan hl hn h5 h6).mono ?_
 rintro e w' ⟨rfl, q1, q2, st⟩
 refine ⟨rfl, q _ _ _ q1 q2 st, fun y c hy => st.at hy fun e => ?_⟩
 rcases e with rfl | rfl
 ·rw [h2.box] at hy; simp at hy
 rw [h3.box] at hy; simp at hy
theorem z9k (h : Bt Z B kv wb ob ub db va vb gv k t ap x ad xd w) :
  Calls Tryz.prog 19 #[.pointer (some ⟨ob, 0, none⟩)] w fun e w' => e = .returned (.tuple #[]) /\ Bt Z B kv wb ob ub db va vb gv k t ap { x with gv := 0 } ad xd w' := by
 obtain ⟨G, H, ov, p, q⟩ := h.prog
 refine (Or.z2k p.oz).mono ?_
 rintro e w' ⟨rfl, ho, hu⟩
 obtain ⟨r1, r2⟩ := p.turn hu ho rfl
 exact ⟨rfl, q _ _ _ _ _ _ _ r1 r2⟩
theorem z3m (h : Bt Z B kv wb ob ub db va vb gv k t ap xp ad x w) : Bt Z B kv wb ob ub db va vb gv k t ap xp ad { x with gv := 0 } (w.setCell ⟨ub, 4, none⟩ (.int .i64 0)) /\ w.frozen? ⟨ub, 4, none⟩ = false /\ w.cell? ⟨ub, 4, none⟩ = some (.int .i64 x.gv) := by
 obtain ⟨S, lv, h2, q⟩ := h.docU
 exact ⟨q _ _ (Ugo.write (lv' := lv) (j := 4) h2 (Below.refl _ _) rfl rfl h2.row fun y hy => zbr (h2.own y hy)), zac h2.box 4, h2.cell (j := 4) rfl⟩
theorem z8n (h : Bt Z B kv wb ob ub db va vb gv k t a xp ad xd w) (hE : Ev B w Ad) (hf : a.fr < 1073741824) :
  Calls Tryz.prog 20 #[.pointer (some ⟨wb, 0, none⟩)] w fun e w' => e = .returned .nilIface /\ Bt Z B kv wb ob ub db va vb gv k t { a with fr := a.fr + 1 } xp ad xd w' := by
 obtain ⟨G, H, ov, p, q⟩ := h.prog
 refine (zzg p.wa hE.env hf).mono ?_
 rintro e w' ⟨rfl, hw, st⟩
 exact ⟨rfl, q G H ov t _ _ w' ⟨hw, p.oz.kept st fun j hj e => hj (p.dj j e), p.dj, p.cs⟩ ⟨zgu st fun y e => .inl e, fun _ _ => rfl, fun _ _ => rfl⟩⟩
theorem z3r (h : Bt Z B kv wb ob ub db va vb gv k t ap xp a xd w) (hf : a.fr < 1073741824) (hf0 : 0 <= a.fr) :
  Calls Tryz.prog 21 #[.pointer (some ⟨db, 0, none⟩)] w fun e w' => e = .returned (.int .i64 0) /\ Bt Z B kv wb ob ub db va vb gv k t ap xp { a with fr := a.fr + 1 } xd w' := by
 obtain ⟨S', lv2, h3, q⟩ := h.docD
 have T := z1e h3 (by omega) hf0
 rw [if_pos hf, if_pos hf] at T
 refine T.mono ?_
 rintro e w' ⟨rfl, hg⟩
 exact ⟨rfl, q _ _ hg⟩
end
end Dw
namespace Dw
open Go.RowKit Go.Shelf Go.Maps
open At (zaa zab zad)
open Rs (PRow)
open Go.Proofs.YthadfdbkkmmgoaaGreatDoor.Or (Od Ods)
open Wo (Bgs Bes NumR)
set_option maxRecDepth 100000
theorem ycj (k i m c : Int) (w : World) : (Op.equalIn 10000 48 (.agg #[.int .i64 k, .int .i64 i, .int .u32 m, .int .i64 c]) (.agg #[.int .i64 k, .int .i64 i, .int .u32 m, .int .i64 c])).run Tryz.prog w = .ok true w := by
 have hS : Tryz.prog.underlying 48 = some (.struct (Tryz.prog.fieldsOf 48)) := by kernel_rfl
 have hp : Tryz.prog.stoodInHeld 48 = false := by kernel_rfl
 have h := run_equalIn_agg (P := Tryz.prog) w 9999 48 #[.int .i64 k, .int .i64 i, .int .u32 m, .int .i64 c] #[.int .i64 k, .int .i64 i, .int .u32 m, .int .i64 c] hS hp
 have u3 := Tryz.underlying3
 have a3 := Tryz.isAgg3
 have z3 := Tryz.sizeOf3
 have u4 := Tryz.underlying46
 have a4 := Tryz.isAgg46
 have z4 := Tryz.sizeOf46
 simp only [Program.fieldsOf, Tryz.underlying48] at h
 rw [show (10000 : Nat) = 9999 + 1 from rfl, h]
 clear h hS hp
 go_simp
theorem yan (k i m c : Int) (w : World) : (binOp .neq 48 (.agg #[.int .i64 k, .int .i64 i, .int .u32 m, .int .i64 c]) (.agg #[.int .i64 k, .int .i64 i, .int .u32 m, .int .i64 c])).run Tryz.prog w = .ok (.bool false) w := by
 simp only [binOp]
 simp [Op.equal, Op.maxDepth, ycj]
theorem zze {B B' : Nat} (W : World) (v u : Value) (l : List Od) (h : Ods B W v l) (h' : Ods B' W u l) (hl : l.length <= 1000) :
  Calls Tryz.prog 22 #[v, u] W fun e W' => e = .returned (.bool true) /\ Below W.heap.size W W' := by
 have H := hid h
 have H' := hid h'
 obtain ⟨a, c, rfl⟩ := h.slice
 obtain ⟨a', c', rfl⟩ := h'.slice
 have hli : (l.length : Int) <= 1000 := by omega
 have nq := yan
 clear h h'
 go_enter Tryz.func22, Tryz.ntmps22
 go_wp2_with fail
 go_loopg [5] l.length (fun gh i wr => ∃ k : Nat, k <= l.length /\ gh = l.length - k /\ i = .int .i64 (k : Int) /\ Hid (Below W.heap.size W wr))
 case atStart => exact ⟨0, Nat.zero_le _, rfl, rfl, Below.refl _ _⟩
 case round =>
  rename World => wr
  obtain ⟨k, hk, rfl, rfl, HB⟩ := hrel
  by_cases hlt : k < l.length
  ·have hki : (k : Int) < (l.length : Int) := by omega
   obtain ⟨p, hp⟩ := zal l k hlt
   obtain ⟨b, rfl, six⟩ := (H.out.later HB.out).at hp
   obtain ⟨b', rfl, six'⟩ := (H'.out.later HB.out).at hp
   obtain ⟨d0, d1, d2, d3⟩ := six
   obtain ⟨f0, f1, f2, f3⟩ := six'
   clear hp
   go_wp2_with fail
   go_quiet (fail)
   go_wp2_with fail
   go_roundg (l.length - (k + 1))
   case measure => omega
   case rel => exact ⟨k + 1, by omega, rfl, by go_num, HB.out.trans ((zad _ _).mono HB.out.size)⟩
  have hki : ¬ ((k : Int) < (l.length : Int)) := by omega
  go_wp2_with fail
  go_ret
  exact ⟨rfl, HB.out⟩
theorem zzb (W : World) (v u : Value) (xs : List Int) (h : NumR W v xs) (h' : NumR W u xs) (hl : xs.length <= 1000) :
  Calls Tryz.prog 64 #[v, u] W fun e W' => e = .returned (.bool true) /\ Below W.heap.size W W' := by
 have H := hid h
 have H' := hid h'
 obtain ⟨a, c, rfl, -⟩ := h
 obtain ⟨a', c', rfl, -⟩ := h'
 have hli : (xs.length : Int) <= 1000 := by omega
 go_enter Tryz.func64, Tryz.ntmps64
 go_wp2_with fail
 go_loopg [5] xs.length (fun gh i wr => ∃ k : Nat, k <= xs.length /\ gh = xs.length - k /\ i = .int .i64 (k : Int) /\ Hid (Below W.heap.size W wr))
 case atStart => exact ⟨0, Nat.zero_le _, rfl, rfl, Below.refl _ _⟩
 case round =>
  rename World => wr
  obtain ⟨k, hk, rfl, rfl, HB⟩ := hrel
  by_cases hlt : k < xs.length
  ·have hki : (k : Int) < (xs.length : Int) := by omega
   obtain ⟨x, hx⟩ := zal xs k hlt
   obtain ⟨b, rfl, d0⟩ : ∃ b, a = some ⟨b, 0, none⟩ /\ wr.cell? ⟨b, k, none⟩ = some (.int .i64 x) := by
    obtain ⟨a2, c2, hv, hl2⟩ := H.out.later HB.out
    obtain ⟨rfl, rfl⟩ : a = a2 /\ c = c2 := by simpa using hv
    exact hl2 k x hx
   obtain ⟨b', rfl, d1⟩ : ∃ b, a' = some ⟨b, 0, none⟩ /\ wr.cell? ⟨b, k, none⟩ = some (.int .i64 x) := by
    obtain ⟨a2, c2, hv, hl2⟩ := H'.out.later HB.out
    obtain ⟨rfl, rfl⟩ : a' = a2 /\ c' = c2 := by simpa using hv
    exact hl2 k x hx
   clear hx
   go_wp2_with fail
   go_quiet (fail)
   go_wp2_with fail
   go_roundg (xs.length - (k + 1))
   case measure => omega
   case rel => exact ⟨k + 1, by omega, rfl, by go_num, by first | exact HB.out | exact HB.out.drew | exact HB.out.trans ((zad _ _).mono HB.out.size)⟩
  have hki : ¬ (k : Int) < (xs.length : Int) := by omega
  clear hk hlt
  go_wp2_with fail
  go_ret
  exact ⟨rfl, HB.out⟩
def BeV (W : World) (v : Value) (L : Bgs) : Prop := ∃ a c, v = .slice a L.length c /\ ∀ (j : Nat) id ps, L[j]? = some (id, ps) -> ∃ g pv, a = some ⟨g, 0, none⟩ /\ W.cell? ⟨g, j * 2, none⟩ = some (.int .i64 id) /\ W.cell? ⟨g, j * 2 + 1, none⟩ = some pv /\ PRow W pv ps
theorem BeV.later {W W' : World} {v : Value} {L : Bgs} (h : BeV W v L) (hb : Below W.heap.size W W') : BeV W' v L := by
 obtain ⟨a, c, e, q⟩ := h
 exact ⟨a, c, e, fun j id ps hj => by
  obtain ⟨g, pv, r1, r2, r3, r4⟩ := q j id ps hj
  exact ⟨g, pv, r1, At.seen hb (Nat.le_refl _) r2, At.seen hb (Nat.le_refl _) r3, r4.later hb⟩⟩
theorem RB.view {S : Nat -> Prop} {W : World} {v : Value} {L : Bgs} (h : RB S W v L) : BeV W v L := by
 obtain ⟨a, c, e⟩ := h.slice
 subst e
 exact ⟨a, c, rfl, fun j id ps hj => by
  obtain ⟨g, pv, e, c0, c1, q⟩ := h.at hj
  exact ⟨g, pv, e, c0, c1, q.1.row⟩⟩
theorem zsx {N : Nat} {W : World} {v : Value} {E : List (Int × Value)} {L : Bgs} (h : Bes N W v E L) : BeV W v L := by
 obtain ⟨a, c, e⟩ := h.slice
 subst e
 exact ⟨a, c, rfl, fun j id ps hj => by
  have hlt := (List.getElem?_eq_some_iff.1 hj).1
  have hle := h.len
  obtain ⟨⟨id', pv⟩, hE⟩ := zal E j (by omega)
  obtain ⟨ps', q1, q2⟩ := h.at' j id' pv hE
  obtain ⟨rfl, rfl⟩ : id = id' /\ ps = ps' := by rw [hj] at q1; simpa using q1
  obtain ⟨g, e, c0, c1⟩ := h.row.at hE
  exact ⟨g, pv, e, c0, c1, q2.row⟩⟩
theorem zhq (W : World) (v u : Value) (L : Bgs) (h : BeV W v L) (h' : BeV W u L) (hl : L.length <= 1000) (hr : ∀ x ∈ L, x.2.length <= 900) :
  Calls Tryz.prog 27 #[v, u] W fun e W' => e = .returned (.bool true) /\ Below W.heap.size W W' := by
 have H := hid h
 have H' := hid h'
 obtain ⟨a, c, rfl, -⟩ := h
 obtain ⟨a', c', rfl, -⟩ := h'
 have hli : (L.length : Int) <= 1000 := by omega
 have HR := hid hr
 clear hr
 go_enter Tryz.func27, Tryz.ntmps27
 go_wp2_with fail
 go_loopg [5] L.length (fun gh i wr => ∃ k : Nat, k <= L.length /\ gh = L.length - k /\ i = .int .i64 (k : Int) /\ Hid (Below W.heap.size W wr))
 case atStart => exact ⟨0, Nat.zero_le _, rfl, rfl, Below.refl _ _⟩
 case round =>
  rename World => wr
  obtain ⟨k, hk, rfl, rfl, HB⟩ := hrel
  by_cases hlt : k < L.length
  ·have hki : (k : Int) < (L.length : Int) := by omega
   obtain ⟨⟨id, ps⟩, hp⟩ := zal L k hlt
   obtain ⟨g, pv, rfl, d0, d1, pr⟩ : ∃ g pv, a = some ⟨g, 0, none⟩ /\ wr.cell? ⟨g, k * 2, none⟩ = some (.int .i64 id) /\ wr.cell? ⟨g, k * 2 + 1, none⟩ = some pv /\ PRow wr pv ps := by
    obtain ⟨a2, c2, hv, hl2⟩ := H.out.later HB.out
    obtain ⟨rfl, rfl⟩ : a = a2 /\ c = c2 := by simpa using hv
    exact hl2 k id ps hp
   obtain ⟨g', pv', rfl, f0, f1, pr'⟩ : ∃ g pv, a' = some ⟨g, 0, none⟩ /\ wr.cell? ⟨g, k * 2, none⟩ = some (.int .i64 id) /\ wr.cell? ⟨g, k * 2 + 1, none⟩ = some pv /\ PRow wr pv ps := by
    obtain ⟨a2, c2, hv, hl2⟩ := H'.out.later HB.out
    obtain ⟨rfl, rfl⟩ : a' = a2 /\ c' = c2 := by simpa using hv
    exact hl2 k id ps hp
   have SM := hid (Rs.z4b wr.drew pv pv' ps (pr.later (Below.refl _ _).drew) (pr'.later (Below.refl _ _).drew) (HR.out _ (List.mem_of_getElem? hp)))
   obtain ⟨pa, pc, rfl, -⟩ := pr
   obtain ⟨pa', pc', rfl, -⟩ := pr'
   clear hp
   go_wp2_with fail
   go_region_held3 (fun W' => W'.cell? ⟨g, k * 2, none⟩ = some (.int .i64 id) /\ W'.cell? ⟨g, k * 2 + 1, none⟩ = some (.slice pa ps.length pc) /\ W'.cell? ⟨g', k * 2, none⟩ = some (.int .i64 id) /\ W'.cell? ⟨g', k * 2 + 1, none⟩ = some (.slice pa' ps.length pc')) (go_keep) (first | (go_at_call 62; refine SM.out.mono ?_; rintro e w4 ⟨rfl, hb4⟩; have t0 := At.seen (W := wr.drew) hb4 (Nat.le_refl _) d0; have t1 := At.seen (W := wr.drew) hb4 (Nat.le_refl _) d1; have u0 := At.seen (W := wr.drew) hb4 (Nat.le_refl _) f0; have u1 := At.seen (W := wr.drew) hb4 (Nat.le_refl _) f1))
   have HB4 := hid (HB.out.trans (((Below.refl _ wr).drew.trans hb4).mono HB.out.size))
   clear t0 t1 u0 u1 d0 d1 f0 f1 hb4 SM
   go_wp2_with fail
   go_roundg (L.length - (k + 1))
   case measure => omega
   case rel => exact ⟨k + 1, by omega, rfl, by go_num, HB4.out⟩
  have hki : ¬ ((k : Int) < (L.length : Int)) := by omega
  go_wp2_with fail
  go_ret
  exact ⟨rfl, HB.out⟩
theorem zkl (W : World) (fr n sd : Int) (ba ba' ra ra' : Option Addr) (bn bc bn' bc' rn rc rn' rc' : Nat) (L : Bgs) (xs : List Int) (h : BeV W (.slice ba bn bc) L) (h' : BeV W (.slice ba' bn' bc') L) (hl : L.length <= 1000) (hr : ∀ x ∈ L, x.2.length <= 900) (hx : NumR W (.slice ra rn rc) xs) (hx' : NumR W (.slice ra' rn' rc') xs) (hxl : xs.length <= 1000) :
  Calls Tryz.prog 29 #[.agg #[.int .i64 fr, .int .i64 n, .int .i64 sd, .slice ba bn bc, .slice ra rn rc], .agg #[.int .i64 fr, .int .i64 n, .int .i64 sd, .slice ba' bn' bc', .slice ra' rn' rc']] W fun e W' => e = .returned (.bool true) /\ Below W.heap.size W W' := by
 obtain ⟨b2, k1, k2⟩ := Rs.zde W #[.int .i64 fr, .int .i64 n, .int .i64 sd, .slice ba bn bc, .slice ra rn rc] #[.int .i64 fr, .int .i64 n, .int .i64 sd, .slice ba' bn' bc', .slice ra' rn' rc'] 76 76
 obtain ⟨W2, hW2⟩ : ∃ W2, W2 = (W.alloc (.cells #[.int .i64 fr, .int .i64 n, .int .i64 sd, .slice ba bn bc, .slice ra rn rc] 76)).alloc (.cells #[.int .i64 fr, .int .i64 n, .int .i64 sd, .slice ba' bn' bc', .slice ra' rn' rc'] 76) := ⟨_, rfl⟩
 rw [<- hW2] at b2 k1 k2
 have HW2 := hid hW2
 have BE := hid (zhq W2 _ _ L (h.later b2) (h'.later b2) hl hr)
 have IS := hid fun (w : World) (hb : Below W2.heap.size W2 w) => zzb w _ _ xs (hx.later (b2.trans (hb.mono b2.size))) (hx'.later (b2.trans (hb.mono b2.size))) hxl
 have CE : Hid (∀ w, Below W2.heap.size W2 w -> w.cell? ⟨W.heap.size, 4, none⟩ = some (.slice ra rn rc) /\ w.cell? ⟨W.heap.size + 1, 4, none⟩ = some (.slice ra' rn' rc')) := hid fun w hb => ⟨zaa (zab hb (Nat.le_refl _) k1) rfl, zaa (zab hb (Nat.le_refl _) k2) rfl⟩
 have x0 : W2.cell? ⟨W.heap.size, 0, none⟩ = some (.int .i64 fr) := zaa k1 rfl
 have x1 : W2.cell? ⟨W.heap.size, 1, none⟩ = some (.int .i64 n) := zaa k1 rfl
 have x2 : W2.cell? ⟨W.heap.size, 2, none⟩ = some (.int .i64 sd) := zaa k1 rfl
 have x3 : W2.cell? ⟨W.heap.size, 3, none⟩ = some (.slice ba bn bc) := zaa k1 rfl
 have y0 : W2.cell? ⟨W.heap.size + 1, 0, none⟩ = some (.int .i64 fr) := zaa k2 rfl
 have y1 : W2.cell? ⟨W.heap.size + 1, 1, none⟩ = some (.int .i64 n) := zaa k2 rfl
 have y2 : W2.cell? ⟨W.heap.size + 1, 2, none⟩ = some (.int .i64 sd) := zaa k2 rfl
 have y3 : W2.cell? ⟨W.heap.size + 1, 3, none⟩ = some (.slice ba' bn' bc') := zaa k2 rfl
 have B2 := hid b2
 clear h h' hx hx' b2 k1 k2 hW2 hr
 go_enter Tryz.func29, Tryz.ntmps29
 go_upto_region 1 with fail
 rw [<- HW2.out]
 go_wp2_with fail
 refine BE.out.mono ?_
 rintro e w3 ⟨rfl, hb3⟩
 have IS3 := hid (IS.out w3 hb3)
 obtain ⟨x4, y4⟩ := CE.out w3 hb3
 have B3 := hid (B2.out.trans (hb3.mono B2.out.size))
 clear hb3 BE IS x0 x1 x2 x3 y0 y1 y2 y3
 go_wp2_with fail
 refine IS3.out.mono ?_
 rintro e w4 ⟨rfl, hb4⟩
 have B4 := hid (B3.out.trans (hb4.mono B3.out.size))
 clear hb4 IS3
 go_wp2_with fail
 go_ret
 exact ⟨rfl, B4.out⟩
end Dw
namespace Sc
open Go.RowKit Go.Shelf
theorem zky {cs : List Cmp} : ∀ m k, k <= m -> zcy cs m = [] -> zcy cs k = []
  | 0, k, h, e => by obtain rfl : k = 0 := by omega
                     exact e
  | m + 1, k, h, e => by
    by_cases q : k = m + 1
    · subst q; exact e
    refine zky m k (by omega) ?_
    rw [zcy] at e
    exact (List.append_eq_nil_iff.1 e).1
theorem zfg {cs : List Cmp} {rs : List Rsc} (h : zak cs rs = []) : cs.length <= 16 /\ ∀ c ∈ cs, (1 <= c.wd /\ c.wd <= 4) /\ dErr c = [] := by
 unfold zak at h
 obtain ⟨h1, -⟩ := List.append_eq_nil_iff.1 h
 obtain ⟨h3, h4⟩ := List.append_eq_nil_iff.1 h1
 have hl : cs.length <= 16 := by
  unfold zay at h3
  split at h3
  ·cases h3
  omega
 refine ⟨hl, fun c hc => ?_⟩
 obtain ⟨k, hk, rfl⟩ := List.getElem_of_mem hc
 have e := zky cs.length (k + 1) (by omega) h4
 rw [zhn (List.getElem?_eq_getElem hk)] at e
 have e2 := (List.append_eq_nil_iff.1 e).2
 unfold zot at e2
 have e3 := List.append_eq_nil_iff.1 (List.append_eq_nil_iff.1 e2).2
 have e4 : wErr cs[k] = [] := by have := e3.1; unfold at3 at this; exact List.map_eq_nil_iff.1 this
 have e5 : dErr cs[k] = [] := by have := e3.2; unfold at3 at this; exact List.map_eq_nil_iff.1 this
 refine ⟨?_, e5⟩
 unfold wErr at e4
 split at e4
 ·rename_i hw
  unfold wOk at hw
  simp at hw
  omega
 cases e4
theorem zzn {cs : List Cmp} {rs : List Rsc} (h : zak cs rs = []) : ∃ ws : List Nat, cs.map (fun c => c.wd) = ws.map (fun (w : Nat) => (w : Int)) /\ Rs.okW ws /\ ∀ (i : Nat) (c : Cmp), cs[i]? = some c -> ∀ f, Rs.fitP ws (Wo.dfP (i : Int) c f) = true := by
 obtain ⟨h1, h2⟩ := zfg h
 refine ⟨cs.map fun c => c.wd.toNat, ?_, ⟨by simpa using h1, fun w hw => ?_⟩, fun i c hi f => ?_⟩
 ·rw [List.map_map]
  refine List.map_congr_left fun c hc => ?_
  have := (h2 c hc).1
  show c.wd = ((c.wd.toNat : Nat) : Int)
  omega
 ·obtain ⟨c, hc, rfl⟩ := List.mem_map.1 hw
  have := (h2 c hc).1
  omega
 have hc := List.mem_of_getElem? hi
 obtain ⟨hw, hd⟩ := h2 c hc
 rw [Rs.zsk (n := i) (w := c.wd.toNat) rfl (by rw [List.getElem?_map, hi]; rfl)]
 unfold dErr at hd
 rw [zmd c hw, Bool.true_and] at hd
 have hb : (behind c).any nzB = false := by
  cases e : (behind c).any nzB with
  | false => rfl
  | true => rw [e] at hd; cases hd
 unfold behind at hb
 rw [List.all_eq_true]
 intro v hv
 rw [List.any_eq_false] at hb
 have := hb v hv
 unfold nzB at this
 simpa using this
end Sc
namespace Dw
open Go.RowKit Go.Shelf Go.Maps
open Sc (zah)
open Go.Proofs.YthadfdbkkmmgoaaGreatDoor.Or (Od Ods OP Pr Oz)
open Wo (AP WK Wa)
theorem yam (d f : Int) (w : World) : (binOp .neq 55 (.agg #[.int .i64 d, .int .i64 f]) (.agg #[.int .i64 d, .int .i64 f])).run Tryz.prog w = .ok (.bool false) w := by
 simp only [binOp]
 simp [Op.equal, Op.maxDepth, Or.yce]
theorem zjh {B B' : Nat} {W : World} {e : TypeId} {sz n : Nat} {v : Value} {xs : List Value} (h : W.ownsRow B e sz v n xs) (hB : B' <= B) : W.ownsRow B' e sz v n xs :=
 ⟨h.1, h.2.elim .inl fun ⟨g, cap, cur, h1, h2, h3⟩ => .inr ⟨g, cap, cur, h1, by omega, h3⟩⟩
section
variable {B B' : Nat} {G H : Wo.Own} {W : World} {wb ob : Nat} {kv ov : Value} {k : WK} {t : Nat} {a : AP} {x : OP}
theorem z7n {sb : Nat} {c : So.CV} {s : Rs.SD} {ex : Option Nat} (h : So.Sto ex B W sb c s) (hB : B' <= B) : So.Sto ex B' W sb c s := by
 refine ⟨h.box, zjh h.wd hB, h.atl.lower hB, ?_, h.seats, h.map, fun n own e => ?_, h.fp, fun k hk => by have := h.lt k hk; omega, h.okw, h.n2, h.lk, h.only, h.small⟩
 ·obtain ⟨gb, mb, fv, h1, h2⟩ := h.rol
  exact ⟨gb, mb, fv, ⟨h1.box, h1.gens, zjh h1.free hB, h1.map, h1.ok, h1.small, h1.old, by have := h1.low; omega, h1.apart⟩, h2⟩
 obtain ⟨m, e1, T⟩ := h.tabs n own e
 refine ⟨m, e1, T.box, zjh T.own hB, T.map, fun c hc => ?_, T.fp, by have := T.low; omega⟩
 obtain ⟨w, e2, mb, sv, q1, q2⟩ := T.col c hc
 exact ⟨w, e2, mb, sv, ⟨q1.box, zjh q1.row hB, q1.map, q1.ok, q1.small, by have := q1.low; omega⟩, q2⟩
theorem yby (h : Wa B G W wb k t a) (hB : B' <= B) : Wa B' G W wb k t a := by
 obtain ⟨p, hd, h1, h2, h3, h4, h5, h6, h7, h8⟩ := h.ex
 refine ⟨⟨p, ⟨⟨fun y hy => by have := hd.z.fin y hy; omega, by have := hd.z.big; omega, hd.z.box, hd.z.gw, hd.z.kin, hd.z.kow, hd.z.few, ?_, ?_, ?_, hd.z.fr0⟩, hd.lv⟩, h1, h2, h3, h4, h5, h6, h7, h8⟩, h.ok⟩
 ·obtain ⟨c, q1, q2, q3⟩ := hd.z.st
  exact ⟨c, z7n q1 hB, q2, q3⟩
 ·obtain ⟨o, n, q1, q2⟩ := hd.z.bd
  exact ⟨o, n, q1.lower hB, q2⟩
 obtain ⟨m, v, q1, q2⟩ := hd.z.gd
 exact ⟨m, v, ⟨q1.box, q1.map, zjh q1.row hB, by have := q1.low; omega, q1.few⟩, q2⟩
theorem z9g {B2 : Nat} {w2 : World} (ho : Oz B H w2 ob kv ov x) (hb : Below w2.heap.size w2 W) (hw : Wa B2 G W wb k t a) (h2 : w2.heap.size <= B2) (hc : k.x.cs = x.cs) : Pr B G H W wb ob kv ov k t a x :=
 ⟨yby hw (by have := ho.big; omega), ho.later hb, fun j hj => Classical.byContradiction fun q => by have := (ho.fin j q).2; have := (hw.fin j hj).1; omega, hc⟩
end
section
variable {Z w w' : World} {B : Nat} {kv : Value} {wb ob ub db : Nat} {va vb gv : Value} {k : WK} {t t' : Nat} {ap ap' ad ad' a : AP} {xp xp' xd xd' x : OP} {Ad : Nat -> Addr}
theorem z5r (h : Bt Z B kv wb ob ub db va vb gv k t ap x ad xd w) : Calls Tryz.prog 23 #[.pointer (some ⟨ob, 0, none⟩)] w fun e w' => ∃ la lc, e = .returned (.slice la x.L.length lc) /\ Ods w.heap.size w' (.slice la x.L.length lc) x.L /\ Below w.heap.size w w' := by
 obtain ⟨G, H, ov, p, -⟩ := h.prog
 refine (Or.zdp p.oz).mono ?_
 rintro e w' ⟨v, rfl, ho, hb⟩
 obtain ⟨la, lc, rfl⟩ := ho.slice
 exact ⟨la, lc, rfl, ho, hb⟩
theorem z1n (h : Bt Z B kv wb ob ub db va vb gv k t ap x ad xd w) : Calls Tryz.prog 24 #[.pointer (some ⟨ob, 0, none⟩)] w fun e w' => e = .returned (.int .i64 x.gv) /\ w' = w := by
 obtain ⟨G, H, ov, p, -⟩ := h.prog
 exact Or.zoa p.oz
theorem zve (h : Bt Z B kv wb ob ub db va vb gv k t ap x ad xd w) : Calls Tryz.prog 25 #[.pointer (some ⟨ob, 0, none⟩)] w fun e w' => e = .returned (.int .i64 x.dr) /\ w' = w := by
 obtain ⟨G, H, ov, p, -⟩ := h.prog
 exact Or.zix p.oz
theorem z2i (h : Bt Z B kv wb ob ub db va vb gv k t a x ad xd w) : Calls Tryz.prog 26 #[.pointer (some ⟨wb, 0, none⟩)] w fun e w' => e = .returned (.int .i64 (a.L.length : Int)) /\ w' = w := by
 obtain ⟨G, H, ov, p, -⟩ := h.prog
 exact Wo.zji p.wa
theorem zll (h : Bt Z B kv wb ob ub db va vb gv k t ap xp ad x w) : ∃ la lc lb le, (∀ w', Below w.heap.size w w' -> w'.cell? ⟨ub, 3, none⟩ = some (.slice la x.L.length lc) /\ Ods 0 w' (.slice la x.L.length lc) x.L /\ w'.cell? ⟨ub, 4, none⟩ = some (.int .i64 x.gv) /\ w'.cell? ⟨ub, 5, none⟩ = some (.int .i64 x.dr) /\ w'.cell? ⟨db, 3, none⟩ = some (.slice lb ad.L.length le) /\ BeV w' (.slice lb ad.L.length le) ad.L) := by
 obtain ⟨S, S', lv, lv2, h2, h3, -⟩ := h.doc
 obtain ⟨la, lc, rfl⟩ := h2.slice
 obtain ⟨lb, le, rfl⟩ := h3.be.slice
 exact ⟨la, lc, lb, le, fun w' hb => ⟨(h2.later hb).cell (j := 3) rfl, (h2.later hb).row, (h2.later hb).cell (j := 4) rfl, (h2.later hb).cell (j := 5) rfl, (h3.later hb).cell (j := 3) rfl, (h3.later hb).be.view⟩⟩
theorem zza (h : Bt Z B kv wb ob ub db va vb gv k t a x ad xd w) : Calls Tryz.prog 28 #[.pointer (some ⟨wb, 0, none⟩)] w fun e w' => ∃ v, e = .returned v /\ BeV w' v a.L /\ Below w.heap.size w w' := by
 obtain ⟨G, H, ov, p, -⟩ := h.prog
 refine (Wo.zrl p.wa).mono ?_
 rintro e w' ⟨v, rfl, ⟨E, q⟩, hb⟩
 exact ⟨v, rfl, zsx q, hb⟩
theorem zsi (h : Bt Z B kv wb ob ub db va vb gv k t a x ad xd w) : okA k a /\ k.ws.length <= 16 /\ a.L.length <= 64 := by
 obtain ⟨G, H, ov, p, -⟩ := h.prog
 exact ⟨okA.of p.wa, ybx p.wa, p.wa.few⟩
theorem z5m (h : Bt Z B kv wb ob ub db va vb gv k t a x ad xd w) : a.gl.length <= 1000 := by
 obtain ⟨G, H, ov, p, -⟩ := h.prog
 obtain ⟨q, hd, -, -, -, -, -, -, -, hg⟩ := p.wa.ex
 obtain ⟨m, v, q1, -⟩ := hd.z.gd
 have := q1.few
 rw [<- hg]
 omega
theorem zrp (h : Bt Z B kv wb ob ub db va vb gv k t a x ad xd w) : Calls Tryz.prog 30 #[.pointer (some ⟨wb, 0, none⟩)] w fun e w' => ∃ ba bn bc ra rn rc, e = .returned (.agg #[.int .i64 a.fr, .int .i64 a.n, .int .i64 a.sd, .slice ba bn bc, .slice ra rn rc]) /\ BeV w' (.slice ba bn bc) (Wo.stL k.x.cs a.L) /\ Wo.NumR w' (.slice ra rn rc) a.gl /\ Below w.heap.size w w' := by
 obtain ⟨q1, q2, -⟩ := zsi h
 obtain ⟨G, H, ov, p, -⟩ := h.prog
 refine (Wo.zxr p.wa fun r hr => by have := q1.few q2 r hr; omega).mono ?_
 rintro e w' ⟨ba, bn, bc, ra, rn, rc, rfl, ⟨E, q⟩, hx, hb⟩
 exact ⟨ba, bn, bc, ra, rn, rc, rfl, zsx q, hx.num, hb⟩
end
theorem z7w {w1 w2 w3 w4 w5 : World} {G H : Wo.Own} {kv lv lv2 va vb gv : Value} {wb ob ub db : Nat} {k : WK} {a : AP} {x : OP} (ho : Oz (w1.heap.size + 1) H w2 ob kv (.slice none 0 0) x) (b12 : Below w1.heap.size w1 w2) (hu : Du w2 (fun y => y = ub) w3 ub va vb lv x) (b23 : Below w2.heap.size w2 w3) (hw : Wa (w3.heap.size + 1) G w4 wb k 0 a) (b34 : Below w3.heap.size w3 w4) (hc : k.x.cs = x.cs) (hd : Dm w4 (fun y => w4.heap.size <= y /\ y < w5.heap.size) w5 db va vb lv2 gv (dw k.x.cs k.most a)) (b45 : Below w4.heap.size w4 w5) (hC : zah w1 va x.cs) :
  Bt w1 (w1.heap.size + 1) kv wb ob ub db va vb gv k 0 a x a x w5 := by
 have z12 := b12.size
 have z23 := b23.size
 have z34 := b34.size
 have z45 := b45.size
 have b13 : Below w1.heap.size w1 w3 := b12.trans (b23.mono z12)
 have b14 : Below w1.heap.size w1 w4 := b13.trans (b34.mono (by omega))
 have b15 : Below w1.heap.size w1 w5 := b14.trans (b45.mono (by omega))
 have hub := hu.fin ub hu.inb
 have hdb := hd.fin db hd.inb
 have P : Pr (w1.heap.size + 1) G H w4 wb ob kv (.slice none 0 0) k 0 a x := z9g ho (b23.trans (b34.mono z23)) hw (by omega) hc
 refine ⟨⟨G, H, _, _, _, _, _, P.later b45, ((hu.base hC b13 z12).later b34).later b45, hd.base (by show zah w1 va k.x.cs; rw [hc]; exact hC) b15 (by omega), fun y hy => ⟨Classical.byContradiction fun e => ?_, Classical.byContradiction fun e => ?_⟩, fun e => ?_, fun e => ?_⟩, by omega⟩
 ·have := hw.fin y e
  rcases hy with q | q
  ·have q : y = ub := q
   omega
  have q : w4.heap.size <= y /\ y < w5.heap.size := q
  omega
 ·have := ho.fin y e
  rcases hy with q | q
  ·have q : y = ub := q
   omega
  have q : w4.heap.size <= y /\ y < w5.heap.size := q
  omega
 ·have e : db = ub := e
  omega
 have e : w4.heap.size <= ub /\ ub < w5.heap.size := e
 omega
def BQ (Z : World) (B : Nat) (kv : Value) (wb ob ub db : Nat) (va vb gv : Value) (k : WK) (q : Nat) (w : World) : Prop :=
 ∃ t a x, Bt Z B kv wb ob ub db va vb gv k t a x a x w /\ t + x.L.length <= q /\ a.n + x.L.length <= q + 1 /\ x.dr <= q /\ 0 <= a.fr /\ a.fr <= q
section
variable {Z w w' : World} {B : Nat} {kv : Value} {wb ob ub db : Nat} {va vb gv : Value} {k : WK} {t q : Nat} {a : AP} {x : OP} {Ad : Nat -> Addr}
theorem zvy {ad : AP} {xd : OP} (h : Bt Z B kv wb ob ub db va vb gv k t a x ad xd w) : x.cs = k.x.cs /\ (∀ y ∈ x.L, y.can k.x.cs.length = true) /\ 0 <= x.gv /\ x.gv <= 64 /\ 0 <= x.dr /\ x.dr <= 1000000 := by
 obtain ⟨G, H, ov, p, -⟩ := h.prog
 have hn := p.oz.n0
 exact ⟨p.cs.symm, fun y hy => by rw [p.cs]; exact (p.oz.can y hy).2, by omega, by omega, by omega, by omega⟩
theorem zyy {y : Od} (h1 : t + x.L.length <= q) (h2 : a.n + x.L.length <= q + 1) (h3 : x.dr <= q) : t + (addU x y).2.L.length <= q + 1 /\ a.n + (addU x y).2.L.length <= ((q + 1 : Nat) : Int) + 1 /\ (addU x y).2.dr <= ((q + 1 : Nat) : Int) := by
 unfold addU
 split
 ·split
  ·refine ⟨by show t + x.L.length <= q + 1; omega, by show a.n + (x.L.length : Int) <= _; omega, by show x.dr + 1 <= _; omega⟩
  refine ⟨by show t + (x.L ++ [y]).length <= q + 1; rw [List.length_append]; simp only [List.length_singleton]; omega, by show a.n + ((x.L ++ [y]).length : Int) <= _; rw [List.length_append]; simp only [List.length_singleton]; omega, by show x.dr <= _; omega⟩
 exact ⟨by show t + x.L.length <= q + 1; omega, by show a.n + (x.L.length : Int) <= _; omega, by show x.dr <= _; omega⟩
end
end Dw
namespace Dw
open Go.RowKit Go.Shelf Go.Maps
open At (St bAl zaa zab zac)
open Sc (Cmp)
open Rs (Prt Prts PRow)
open Wo (BeR AP NumO NumR stL put5 zly zqg)
section
variable {Z : World} {S S' T : Nat -> Prop} {W W' : World} {b : Nat} {va vb lv gv : Value} {x x' : DW} {cs : List Cmp} {most : Nat} {a : AP}
abbrev zS : Obj := .cells #[.int .i64 0, .int .i64 0, .int .i64 0, .slice none 0 0, .slice none 0 0] 76
structure Sx (w1 : World) (cs : List Cmp) (a : AP) (ga : Option Addr) (gc : Nat) (j : Nat) (bv : Value) (E : List (Int × Value)) (wr : World) : Prop where
 bel : Below w1.heap.size w1 wr
 box : wr.heap[w1.heap.size]? = some (.cells #[.int .i64 a.fr, .int .i64 a.n, .int .i64 a.sd, bv, .slice ga a.gl.length gc] 76 (0, 0))
 ber : BeR (w1.heap.size + 1) wr bv E
 len : E.length = j
 row : ∀ (i : Nat) id pv, E[i]? = some (id, pv) -> ∃ ps, (stL cs (a.L.take j))[i]? = some (id, ps) /\ Prts (w1.heap.size + 1) wr pv ps
structure Sy (wr : World) (cs : List Cmp) (id : Int) (ps : List Prt) (i : Nat) (pv : Value) (wq : World) : Prop where
 bel : Below wr.heap.size wr wq
 box : wq.heap[wr.heap.size]? = some (.cells #[.int .i64 id, pv] 133 (0, 0))
 row : Prts (wr.heap.size + 1) wq pv ((ps.take i).filter (Wo.stays cs))
theorem zws {N M : Nat} {w : World} {v u : Value} {E : List (Int × Value)} {l : List Prt} (h : BeR N w v E) (h' : Prts M w u l) {y : Nat} (hy : u.ownBlock = some y) : v.ownBlock ≠ some y := fun e => by
 obtain ⟨c, q⟩ := So.zbd h e
 obtain ⟨c', q'⟩ := So.zbd h' hy
 rw [q] at q'
 simp at q'
section
variable {w1 wr wq w9 : World} {cs : List Cmp} {a : AP} {ga : Option Addr} {gc j : Nat} {bv pv : Value} {E : List (Int × Value)} {id : Int} {ps : List Prt} {k : Nat}
theorem Sx.later (h : Sx w1 cs a ga gc j bv E wr) (hb : Below wr.heap.size wr wq) : Sx w1 cs a ga gc j bv E wq :=
 ⟨h.bel.trans (hb.mono h.bel.size), zab hb (Nat.le_refl _) h.box, h.ber.later hb, h.len, fun i id pv hi => by obtain ⟨ps, q1, q2⟩ := h.row i id pv hi; exact ⟨ps, q1, q2.later hb⟩⟩
theorem Sx.next (h : Sx w1 cs a ga gc j bv E wq) (hp : a.L[j]? = some (id, ps)) (hpv : Prts (w1.heap.size + 1) wq pv (ps.filter (Wo.stays cs))) {v' : Value} (q1 : BeR (w1.heap.size + 1) w9 v' (E ++ [(id, pv)])) (q2 : St (fun x => bv.ownBlock = some x) wq w9) :
  Sx w1 cs a ga gc (j + 1) v' (E ++ [(id, pv)]) (w9.setCell ⟨w1.heap.size, 3, none⟩ v') /\ w9.cell? ⟨w1.heap.size, 3, none⟩ = some bv /\ w9.frozen? ⟨w1.heap.size, 3, none⟩ = false := by
 have hlt : ∀ y, bv.ownBlock = some y -> w1.heap.size + 1 <= y := fun y hy => (World.ownsRow.lt h.ber y hy).1
 have bx := q2.at h.box (fun e => by have := hlt _ e; omega)
 have st : St (fun y => y = w1.heap.size) w9 (w9.setCell ⟨w1.heap.size, 3, none⟩ v') := St.setCell _ rfl
 have b9 := h.bel.trans (q2.below (B := w1.heap.size) (fun y e => by have := hlt y e; omega) h.bel.size)
 have keep : ∀ {u : Value} {l : List Prt}, Prts (w1.heap.size + 1) wq u l -> Prts (w1.heap.size + 1) (w9.setCell ⟨w1.heap.size, 3, none⟩ v') u l := fun {u l} hu =>
  So.zai (So.zai hu q2 fun y hy => zws h.ber hu hy) st fun y hy e => by have := (World.ownsRow.lt hu y hy).1; omega
 refine ⟨⟨b9.trans (st.below (B := w1.heap.size) (fun y e => by omega) b9.size), heap_setCell_same w9 w1.heap.size 3 _ _ v' bx, q1.kept st fun y hy e => by have := (World.ownsRow.lt q1 y hy).1; omega, by rw [List.length_append, h.len]; rfl, fun i id' pv' hi => ?_⟩, zaa bx rfl, zac bx 3⟩
 have eL : stL cs (a.L.take (j + 1)) = stL cs (a.L.take j) ++ [(id, ps.filter (Wo.stays cs))] := by unfold stL; rw [List.take_add_one, hp, List.map_append]; rfl
 have hjl : (stL cs (a.L.take j)).length = j := by
  have := (List.getElem?_eq_some_iff.1 hp).1
  unfold stL
  rw [List.length_map, List.length_take]
  omega
 rw [eL]
 by_cases e : i < j
 ·rw [List.getElem?_append_left (by rw [h.len]; exact e)] at hi
  obtain ⟨ps', r1, r2⟩ := h.row i id' pv' hi
  exact ⟨ps', by rw [List.getElem?_append_left (by rw [hjl]; exact e)]; exact r1, keep r2⟩
 have hi2 := (List.getElem?_eq_some_iff.1 hi).1
 rw [List.length_append, h.len] at hi2
 simp only [List.length_singleton] at hi2
 obtain rfl : i = j := by omega
 rw [List.getElem?_append_right (by rw [h.len]; exact Nat.le_refl _), h.len, Nat.sub_self] at hi
 simp only [List.getElem?_cons_zero, Option.some.injEq, Prod.mk.injEq] at hi
 obtain ⟨rfl, rfl⟩ := hi
 exact ⟨_, by rw [List.getElem?_append_right (by rw [hjl]; exact Nat.le_refl _), hjl, Nat.sub_self]; rfl, keep hpv⟩
theorem Sy.next {l : List Prt} {p : Prt} (h : Sy wr cs id ps k pv wq) (hT : (ps.take (k + 1)).filter (Wo.stays cs) = l ++ [p]) {v' : Value} (h6 : Prts (wr.heap.size + 1) w9 v' (l ++ [p]) /\ St (fun x => pv.ownBlock = some x) wq w9) :
  Sy wr cs id ps (k + 1) v' (w9.setCell ⟨wr.heap.size, 1, none⟩ v') /\ w9.cell? ⟨wr.heap.size, 1, none⟩ = some pv /\ w9.frozen? ⟨wr.heap.size, 1, none⟩ = false := by
 have hlt : ∀ y, pv.ownBlock = some y -> wr.heap.size + 1 <= y := fun y hy => (World.ownsRow.lt h.row y hy).1
 have bx := h6.2.at h.box (fun e => by have := hlt _ e; omega)
 have st : St (fun y => y = wr.heap.size) w9 (w9.setCell ⟨wr.heap.size, 1, none⟩ v') := St.setCell _ rfl
 have b9 := h.bel.trans (h6.2.below (B := wr.heap.size) (fun y e => by have := hlt y e; omega) h.bel.size)
 exact ⟨⟨b9.trans (st.below (B := wr.heap.size) (fun y e => by omega) b9.size), heap_setCell_same w9 wr.heap.size 1 _ _ v' bx, by rw [hT]; exact So.zai h6.1 st fun y hy e => by have := (World.ownsRow.lt h6.1 y hy).1; omega⟩, zaa bx rfl, zac bx 1⟩
end
set_option maxRecDepth 100000 in
theorem zkh (h : Dm Z S W b va vb lv gv (dw cs most a)) (hrow : ∀ p ∈ a.L, p.2.length <= 100) :
  Calls Tryz.prog 31 #[.pointer (some ⟨b, 0, none⟩)] W fun e W' => ∃ ba bn bc ra rn rc, e = .returned (.agg #[.int .i64 a.fr, .int .i64 a.n, .int .i64 a.sd, .slice ba bn bc, .slice ra rn rc]) /\ BeV W' (.slice ba bn bc) (stL cs a.L) /\ NumR W' (.slice ra rn rc) a.gl /\ Below W.heap.size W W' := by
 obtain ⟨w1, hw1⟩ : ∃ w1, w1 = W.alloc zS := ⟨_, rfl⟩
 have b1 : Below W.heap.size W w1 := by rw [hw1]; exact bAl _ _
 have r1 : w1.heap[W.heap.size]? = some zS := by rw [hw1]; exact heap_alloc_new W _
 have hz1 : w1.heap.size = W.heap.size + 1 := by rw [hw1]; simp
 have h1 := h.later b1
 obtain ⟨la, lc, rfl⟩ := h.be.slice
 obtain ⟨ga, gc, rfl⟩ := zaf h.gd.1
 change Dm Z S w1 b va vb (.slice la a.L.length lc) (.slice ga a.gl.length gc) (dw cs most a) at h1
 have c3 : w1.cell? ⟨b, 3, none⟩ = some (.slice la a.L.length lc) := h1.cell (j := 3) rfl
 have c4 : w1.cell? ⟨b, 4, none⟩ = some (.int .i64 a.fr) := h1.cell (j := 4) rfl
 have c5 : w1.cell? ⟨b, 5, none⟩ = some (.int .i64 a.n) := h1.cell (j := 5) rfl
 have c6 : w1.cell? ⟨b, 6, none⟩ = some (.int .i64 a.sd) := h1.cell (j := 6) rfl
 have c7 : w1.cell? ⟨b, 7, none⟩ = some (.slice ga a.gl.length gc) := h1.cell (j := 7) rfl
 have HH := hid h1
 have B1 := hid b1
 have R1 := hid r1
 have HZ1 := hid hz1
 have HW1 := hid hw1
 have HROW := hid hrow
 have GD : Hid (NumO 0 W (.slice ga a.gl.length gc) a.gl) := hid h.gd.1
 unfold zS at HW1
 clear h h1 b1 r1 hz1 hw1 hrow
 go_enter Tryz.func31, Tryz.ntmps31
 go_upto_region 1 with fail
 rw [<- HW1.out]
 have d3 := At.seen (bAl w1 zS) (Nat.le_refl _) c3
 have d4 := At.seen (bAl w1 zS) (Nat.le_refl _) c4
 have d5 := At.seen (bAl w1 zS) (Nat.le_refl _) c5
 have d6 := At.seen (bAl w1 zS) (Nat.le_refl _) c6
 have d7 := At.seen (bAl w1 zS) (Nat.le_refl _) c7
 go_region
 obtain ⟨w2, hw2⟩ : ∃ w2, w2 = (w1.alloc (.cells #[.int .i64 a.fr, .int .i64 a.n, .int .i64 a.sd, .slice none 0 0, .slice ga a.gl.length gc] 76)).drew := ⟨_, rfl⟩
 rw [<- hw2]
 have X0 : Hid (Sx w1 cs a ga gc 0 (.slice none 0 0) [] w2) := hid ⟨by rw [hw2]; exact (bAl _ _).drew, by rw [hw2]; exact heap_alloc_new w1 _, World.ownsRow_nil _ _ _ _, rfl, fun i id pv hi => by simp at hi⟩
 clear hw2 c3 c4 c5 c6 c7 d3 d4 d5 d6 d7
 have C3 : Hid (∀ w, Below w1.heap.size w1 w -> w.cell? ⟨b, 3, none⟩ = some (.slice la a.L.length lc)) := hid fun w hb => (HH.out.later hb).cell (j := 3) rfl
 have h64 : a.L.length <= 64 := HH.out.l64
 have hli : (a.L.length : Int) <= 64 := by omega
 go_wp2_with fail
 go_loopg [4, 5, 6] a.L.length (fun gh i _ _ wr => ∃ (j : Nat) (bv : Value) (E : List (Int × Value)), j <= a.L.length /\ gh = a.L.length - j /\ i = .int .i64 (j : Int) /\ Hid (Sx w1 cs a ga gc j bv E wr))
 case atStart => exact ⟨0, _, [], Nat.zero_le _, rfl, rfl, X0.out⟩
 case round =>
  rename World => wr
  obtain ⟨j, bv, E, hj, rfl, rfl, HX⟩ := hrel
  clear X0
  have c3 := C3.out wr HX.out.bel
  by_cases hlt : j < a.L.length
  ·have hji : (j : Int) < (a.L.length : Int) := by omega
   obtain ⟨⟨id, ps⟩, hp⟩ := zal a.L j hlt
   have h1r := HH.out.later HX.out.bel
   obtain ⟨g, pv0, e0, d0, d1, qq⟩ := h1r.be.at (L := a.L) hp
   subst e0
   have hrl := HROW.out _ (List.mem_of_getElem? hp)
   simp only at hrl
   have hrli : (ps.length : Int) <= 100 := by omega
   obtain ⟨pa, pc, rfl⟩ := qq.1.slice
   have QQ := hid qq
   have D1 := hid d1
   have HP := hid hp
   obtain ⟨w4, hw4⟩ : ∃ w4, w4 = wr.alloc (.cells #[.int .i64 id, .slice none 0 0] 133) := ⟨_, rfl⟩
   have Y0 : Hid (Sy wr cs id ps 0 (.slice none 0 0) w4) := hid ⟨by rw [hw4]; exact bAl _ _, by rw [hw4]; exact heap_alloc_new wr _, World.ownsRow_nil _ _ _ _⟩
   have HW4 := hid hw4
   clear hw4 h1r qq hp
   go_upto_region 6 with fail
   rw [<- HW4.out]
   clear HW4 d0 d1 c3
   have CC : Hid (∀ w, Below wr.heap.size wr w -> w.cell? ⟨b, 3, none⟩ = some (.slice (some ⟨g, 0, none⟩) a.L.length lc) /\ w.cell? ⟨g, j * 2 + 1, none⟩ = some (.slice pa ps.length pc) /\ PRow w (.slice pa ps.length pc) ps /\ ∀ c, Calls Tryz.prog 70 #[.pointer (some ⟨b, 0, none⟩), .int .i64 c] w fun e W' => e = .returned (.bool (Wo.zao cs c)) /\ W' = w) := hid fun w hb => by
    have hb1 := HX.out.bel.trans (hb.mono HX.out.bel.size)
    have r1' : w.cell? ⟨g, j * 2 + 1, none⟩ = some (.slice pa ps.length pc) := by
     exact At.seen hb (Nat.le_refl _) D1.out
    exact ⟨C3.out w hb1, r1', (QQ.out.1.row).later hb, fun c => zdb (HH.out.later hb1) c⟩
   go_wp2_with fail
   go_loopg [6] ps.length (fun gh i wq => ∃ (k : Nat) (pv : Value), k <= ps.length /\ gh = ps.length - k /\ i = .int .i64 (k : Int) /\ Hid (Sy wr cs id ps k pv wq))
   case atStart => exact ⟨0, _, Nat.zero_le _, rfl, rfl, Y0.out⟩
   case round =>
    rename World => wq
    obtain ⟨k, pv, hk, rfl, rfl, HY⟩ := hrel
    clear Y0
    obtain ⟨c3, d1, PR, RO⟩ := CC.out wq HY.out.bel
    by_cases hlk : k < ps.length
    ·have hki : (k : Int) < (ps.length : Int) := by omega
     obtain ⟨p, hpp⟩ := zal ps k hlk
     obtain ⟨b5, o5, e5, six⟩ := PR.at hpp
     subst e5
     obtain ⟨s0, s1, s2, s3, s4, s5⟩ := six
     have RC := hid (RO p.c)
     obtain ⟨pva, pvc, rfl⟩ := HY.out.row.slice
     have e1 : (ps.take (k + 1)) = ps.take k ++ [p] := by rw [List.take_add_one, hpp]; rfl
     have hl9 : ((ps.take k).filter (Wo.stays cs)).length <= 1000 := by
      have h1 := List.length_filter_le (Wo.stays cs) (ps.take k)
      have h2 := List.length_take_le k ps
      omega
     cases hrb : Wo.zao cs p.c with
     | true =>
      rw [hrb] at RC
      have TK : Hid ((ps.take (k + 1)).filter (Wo.stays cs) = (ps.take k).filter (Wo.stays cs) ++ [p]) := hid (by rw [e1, List.filter_append]; congr 1; exact List.filter_cons_of_pos (l := []) hrb)
      have z1 : wq.cell? ⟨wr.heap.size, 1, none⟩ = some (.slice pva ((ps.take k).filter (Wo.stays cs)).length pvc) := zaa HY.out.box rfl
      have hb0 := bAl wq (.cells #[.int .i64 p.c, .int .i64 p.v0, .int .i64 p.v1, .int .i64 p.v2, .int .i64 p.v3, .int .i64 p.t] 89)
      have hpl : Prts (wr.heap.size + 1) wq (.slice pva ((ps.take k).filter (Wo.stays cs)).length pvc) ((ps.take k).filter (Wo.stays cs)) := HY.out.row
      have hsz : wr.heap.size + 1 <= wq.heap.size := (Array.getElem?_eq_some_iff.1 HY.out.box).1
      have z1' := At.seen hb0 (Nat.le_refl _) z1
      have c3' := At.seen hb0 (Nat.le_refl _) c3
      have d1' := At.seen hb0 (Nat.le_refl _) d1
      generalize (ps.take k).filter (Wo.stays cs) = pl at *
      clear hpp e1 RO PR
      go_wp2_with fail
      refine RC.out.mono ?_
      rintro e w5 ⟨rfl, rfl⟩
      clear RC
      go_upto_region 10 with fail
      go_region_law (first
       | (refine zog (p := p) rfl _ _ rfl hpl hl9 hsz (by first | exact hb0 | exact hb0.drew) (by first | exact heap_alloc_new _ _) rfl rfl ?_; intro a6 c6 w6 h6; obtain ⟨-, n1, f1⟩ := HY.out.next TK.out h6.out))
      all_goals
       have Y6 := hid (HY.out.next TK.out h6.out).1
       clear h6 n1 f1 z1 z1' c3 c3' d1 d1' s0 s1 s2 s3 s4 s5 hpl HY hb0
       go_wp2_with fail
       go_roundg (ps.length - (k + 1))
       case measure => omega
       case rel => exact ⟨k + 1, _, by omega, rfl, by go_num, Y6.out⟩
     | false =>
      rw [hrb] at RC
      have TK : Hid ((ps.take (k + 1)).filter (Wo.stays cs) = (ps.take k).filter (Wo.stays cs)) := hid (by rw [e1, List.filter_append]; have : [p].filter (Wo.stays cs) = [] := List.filter_cons_of_neg (l := []) (by show ¬ Wo.stays cs p = true; unfold Wo.stays; rw [hrb]; decide); rw [this, List.append_nil])
      have Y6 : Hid (Sy wr cs id ps (k + 1) (.slice pva ((ps.take k).filter (Wo.stays cs)).length pvc) wq) := hid ⟨HY.out.bel, HY.out.box, by rw [TK.out]; exact HY.out.row⟩
      generalize (ps.take k).filter (Wo.stays cs) = pl at *
      clear hpp e1 RO PR
      go_wp2_with fail
      refine RC.out.mono ?_
      rintro e w5 ⟨rfl, rfl⟩
      clear RC s0 s1 s2 s3 s4 s5
      go_wp2_with fail
      go_roundg (ps.length - (k + 1))
      case measure => omega
      case rel => exact ⟨k + 1, _, by omega, rfl, by go_num, Y6.out⟩
    have hki : ¬ ((k : Int) < (ps.length : Int)) := by omega
    have e1 : ps.take k = ps := by rw [show k = ps.length by omega]; exact List.take_length
    have HPV : Hid (Prts (wr.heap.size + 1) wq pv (ps.filter (Wo.stays cs))) := hid (by have := HY.out.row; rw [e1] at this; exact this)
    obtain ⟨pva, pvc, rfl⟩ := HPV.out.slice
    have X3 := hid (HX.out.later HY.out.bel)
    have s3 : wq.cell? ⟨w1.heap.size, 3, none⟩ = some bv := zaa X3.out.box rfl
    have z0 : wq.cell? ⟨wr.heap.size, 0, none⟩ = some (.int .i64 id) := zaa HY.out.box rfl
    have z1 : wq.cell? ⟨wr.heap.size, 1, none⟩ = some (.slice pva (ps.filter (Wo.stays cs)).length pvc) := zaa HY.out.box rfl
    have hbe := X3.out.ber
    have HLEN := hid X3.out.len
    have hj1000 : j <= 1000 := by omega
    have hsz1 : w1.heap.size + 1 <= wq.heap.size := (Array.getElem?_eq_some_iff.1 X3.out.box).1
    obtain ⟨bva, bvc, ebv⟩ := BeR.slice hbe
    rw [X3.out.len] at ebv
    subst ebv
    have HSZ := hid HX.out.bel.size
    have hpv1 : Prts (w1.heap.size + 1) wq (.slice pva (ps.filter (Wo.stays cs)).length pvc) (ps.filter (Wo.stays cs)) := HPV.out.lower (by have := HSZ.out; omega)
    have FIN := hid fun w9 v' q1 q2 => X3.out.next (w9 := w9) (v' := v') HP.out hpv1 q1 q2
    clear hpv1
    generalize (ps.filter (Wo.stays cs)) = pl at *
    clear RO PR CC QQ HPV
    go_wp2_with (at_builtin; refine Wo.zdh rfl _ _ rfl hbe HLEN.out hj1000 hsz1 rfl rfl ?_; intro g9 cap9 w9 q1 q2; obtain ⟨-, n3, f3⟩ := FIN.out w9 _ q1.out q2.out)
    have X9 := hid (FIN.out w9 _ q1.out q2.out).1
    clear q1 q2 n3 f3 s3 z0 z1 hbe
    go_roundg (a.L.length - (j + 1))
    case measure => omega
    case rel => exact ⟨j + 1, _, _, by omega, rfl, by go_num, X9.out⟩
  have hji : ¬ ((j : Int) < (a.L.length : Int)) := by omega
  obtain rfl : j = a.L.length := by omega
  obtain ⟨ba, bc, rfl⟩ := BeR.slice HX.out.ber
  have eT : a.L.take a.L.length = a.L := List.take_length
  have HEL := hid HX.out.len
  rw [HX.out.len] at HX
  have rz : wr.heap[W.heap.size]? = some zS := by
   have hlt : W.heap.size < w1.heap.size := by have := HZ1.out; omega
   rw [HX.out.bel.block _ hlt]
   exact R1.out
  have s0 : wr.cell? ⟨w1.heap.size, 0, none⟩ = some (.int .i64 a.fr) := zaa HX.out.box rfl
  have s1 : wr.cell? ⟨w1.heap.size, 1, none⟩ = some (.int .i64 a.n) := zaa HX.out.box rfl
  have s2 : wr.cell? ⟨w1.heap.size, 2, none⟩ = some (.int .i64 a.sd) := zaa HX.out.box rfl
  have s3 : wr.cell? ⟨w1.heap.size, 3, none⟩ = some (.slice ba a.L.length bc) := zaa HX.out.box rfl
  have s4 : wr.cell? ⟨w1.heap.size, 4, none⟩ = some (.slice ga a.gl.length gc) := zaa HX.out.box rfl
  have q0 : wr.cell? ⟨W.heap.size, 0, none⟩ = some (.int .i64 0) := zaa rz rfl
  have q1 : wr.cell? ⟨W.heap.size, 1, none⟩ = some (.int .i64 0) := zaa rz rfl
  have q2 : wr.cell? ⟨W.heap.size, 2, none⟩ = some (.int .i64 0) := zaa rz rfl
  have q3 : wr.cell? ⟨W.heap.size, 3, none⟩ = some (.slice none 0 0) := zaa rz rfl
  have q4 : wr.cell? ⟨W.heap.size, 4, none⟩ = some (.slice none 0 0) := zaa rz rfl
  have f0 := zac rz 0
  have f1 := zac rz 1
  have f2 := zac rz 2
  have f3 := zac rz 3
  have f4 := zac rz 4
  have st5 := zqg wr W.heap.size (.int .i64 a.fr) (.int .i64 a.n) (.int .i64 a.sd) (.slice ba a.L.length bc) (.slice ga a.gl.length gc)
  have bl5 := zly rz (.int .i64 a.fr) (.int .i64 a.n) (.int .i64 a.sd) (.slice ba a.L.length bc) (.slice ga a.gl.length gc)
  have hbe : Below W.heap.size W (put5 wr W.heap.size (.int .i64 a.fr) (.int .i64 a.n) (.int .i64 a.sd) (.slice ba a.L.length bc) (.slice ga a.gl.length gc)) := by
   have b2 := B1.out.trans (HX.out.bel.mono B1.out.size)
   exact b2.trans (st5.below (B := W.heap.size) (fun y e => by omega) b2.size)
  have VW : BeV (put5 wr W.heap.size (.int .i64 a.fr) (.int .i64 a.n) (.int .i64 a.sd) (.slice ba a.L.length bc) (.slice ga a.gl.length gc)) (.slice ba a.L.length bc) (stL cs a.L) := by
   have R : RB (fun y => w1.heap.size + 1 <= y) wr (.slice ba a.L.length bc) (stL cs a.L) := by
    refine ⟨⟨E, ⟨HX.out.ber.1, HX.out.ber.2.elim .inl fun ⟨g, cap, cur, h1, h2, h3⟩ => .inr ⟨g, cap, cur, h1, Nat.zero_le _, h3⟩⟩, by unfold stL; rw [List.length_map]; exact HEL.out, fun i id pv hi => ?_⟩, fun y hy => (World.ownsRow.lt HX.out.ber y hy).1⟩
    obtain ⟨ps, r1, r2⟩ := HX.out.row i id pv hi
    rw [eT] at r1
    exact ⟨ps, r1, r2.lower (Nat.zero_le _), fun y hy => (World.ownsRow.lt r2 y hy).1⟩
   exact (R.kept st5 fun y hy e => by have := HZ1.out; omega).view
  have GW : NumR (put5 wr W.heap.size (.int .i64 a.fr) (.int .i64 a.n) (.int .i64 a.sd) (.slice ba a.L.length bc) (.slice ga a.gl.length gc)) (.slice ga a.gl.length gc) a.gl := (NumO.later GD.out hbe).num
  have FIN := hid (And.intro VW (And.intro GW hbe))
  have z0 := zaa bl5 (j := 0) rfl
  have z1 := zaa bl5 (j := 1) rfl
  have z2 := zaa bl5 (j := 2) rfl
  have z3 := zaa bl5 (j := 3) rfl
  have z4 := zaa bl5 (j := 4) rfl
  clear VW GW hbe bl5 st5 rz
  go_wp2_with fail
  obtain ⟨g1, g2, g3⟩ := FIN.out
  exact bodyPost_ret (v := .agg #[.int .i64 a.fr, .int .i64 a.n, .int .i64 a.sd, .slice ba a.L.length bc, .slice ga a.gl.length gc]) (by simp [results, Tryz.results31, go_sem, z0, z1, z2, z3, z4]) rfl ⟨_, _, _, _, _, _, rfl, g1, g2, g3⟩
end
end Dw
namespace Sc
open Go.RowKit Go.Shelf
def eqS (a b : ByteArray) : Bool := a.toList == b.toList
theorem zzi (a b : ByteArray) : eqS a b = true ↔ a = b := by
 unfold eqS
 constructor
 ·intro h
  have h := eq_of_beq h
  rw [Lib.toList_data, Lib.toList_data] at h
  exact ByteArray.ext (Array.toList_inj.1 h)
 rintro rfl; exact beq_self_eq_true _
def zav (s : ByteArray) : List ByteArray -> Nat -> Int
 | [], _ => -1
 | x :: l, k => if eqS x s then (k : Int) else zav s l (k + 1)
theorem zjv (s : ByteArray) (l : List ByteArray) (k : Nat) (x : ByteArray) (h : l[k]? = some x) :
  zav s (l.drop k) k = if eqS x s then (k : Int) else zav s (l.drop (k + 1)) (k + 1) := by
 rw [List.drop_eq_getElem?_toList_append, h]
 rfl
theorem zki (s : ByteArray) (l : List ByteArray) (k : Nat) (h : l.length <= k) : zav s (l.drop k) k = -1 := by
 rw [List.drop_of_length_le h]; rfl
def zfz (i : Int) : Value := if i < 0 then .tuple #[.int .i64 0, .bool false] else .tuple #[.int .i64 i, .bool true]
set_option maxRecDepth 100000 in
theorem znr (W : World) (va vb : Value) (cs : List Cmp) (hC : zah W va cs) (hl : cs.length <= 1000) (s : ByteArray) :
  Calls Tryz.prog 44 #[.agg #[va, vb], .string s] W fun e W' => e = .returned (zfz (zav s (cs.map Cmp.s) 0)) /\ Below W.heap.size W W' := by
 obtain ⟨a, c, rfl, hcap, hlay⟩ := hC
 have HL := hid hlay
 have BA : Hid (Below W.heap.size W (W.alloc (.cells #[.slice a cs.length c, vb] 25))) := (Below.refl _ _).alloc (Nat.le_refl _) _
 have hli : (cs.length : Int) <= 1000 := by omega
 clear hlay hcap
 go_enter Tryz.func44, Tryz.ntmps44
 go_wp2_with fail
 go_loop [6] (fun i => ∃ k : Nat, k <= cs.length /\ i = .int .i64 (k : Int) /\ Hid (zav s (cs.map Cmp.s) 0 = zav s ((cs.map Cmp.s).drop k) k)) (fun i => cs.length - (intOf i).toNat)
 case atStart => exact ⟨0, Nat.zero_le _, rfl, rfl⟩
 case round =>
  obtain ⟨k, hk, rfl, HF⟩ := hrel
  by_cases hlt : k < cs.length
  ·have hki : (k : Int) < (cs.length : Int) := by omega
   obtain ⟨x, hx⟩ := zal cs k hlt
   obtain ⟨b, o, rfl, hc⟩ : ∃ b o, a = some ⟨b, o, none⟩ /\ ∀ (j : Nat) (x : Cmp), cs[j]? = some x -> W.cell? ⟨b, o + j * 7, none⟩ = some (.string x.s) /\ W.cell? ⟨b, o + j * 7 + 1, none⟩ = some (.int .i64 x.wd) /\ W.cell? ⟨b, o + j * 7 + 2, none⟩ = some (.bool x.rb) /\ W.cell? ⟨b, o + j * 7 + 3, none⟩ = some (.int .i64 x.d0) /\ W.cell? ⟨b, o + j * 7 + 4, none⟩ = some (.int .i64 x.d1) /\ W.cell? ⟨b, o + j * 7 + 5, none⟩ = some (.int .i64 x.d2) /\ W.cell? ⟨b, o + j * 7 + 6, none⟩ = some (.int .i64 x.d3) := by
    rcases HL.out with h | h
    ·rw [h] at hx; simp at hx
    exact h
   have c0 := (hc k x hx).1
   have hbl : b < W.heap.size := World.block_lt_of_cell? W _ c0
   have hbn : ¬ (b = W.heap.size) := by omega
   have FN := hid (zjv s (cs.map Cmp.s) k x.s (by rw [List.getElem?_map, hx]; rfl))
   clear hc hx
   cases hq : eqS x.s s with
   | true =>
    have R : Hid (zav s (cs.map Cmp.s) 0 = (k : Int)) := by show _ = _; rw [HF.out, FN.out, hq]; rfl
    clear FN HF
    unfold eqS at hq
    go_wp2_with fail
    refine bodyPost_ret (v := .tuple #[.int .i64 (k : Int), .bool true]) (by simp [results, Tryz.results44, go_sem]) rfl ⟨by rw [R.out]; unfold zfz; rw [if_neg (by omega)], BA.out⟩
   | false =>
    have R : Hid (zav s (cs.map Cmp.s) 0 = zav s ((cs.map Cmp.s).drop (k + 1)) (k + 1)) := by show _ = _; rw [HF.out, FN.out, hq]; rfl
    clear FN HF
    unfold eqS at hq
    go_wp2_with fail
    go_round
    case rel => exact ⟨k + 1, by omega, by go_num, R.out⟩
    case measure => simp [intOf]; omega
  have hki : ¬ ((k : Int) < (cs.length : Int)) := by omega
  have R : Hid (zav s (cs.map Cmp.s) 0 = -1) := by show _ = _; rw [HF.out, zki _ _ _ (by rw [List.length_map]; omega)]
  go_wp2_with fail
  refine bodyPost_ret (v := .tuple #[.int .i64 0, .bool false]) (by simp [results, Tryz.results44, go_sem]) rfl ⟨by rw [R.out]; rfl, BA.out⟩
set_option maxRecDepth 100000 in
theorem zlj (W : World) (va vb : Value) (cs : List Rsc) (hC : zaw W vb cs) (hl : cs.length <= 1000) (s : ByteArray) :
  Calls Tryz.prog 45 #[.agg #[va, vb], .string s] W fun e W' => e = .returned (zfz (zav s (cs.map Rsc.s) 0)) /\ Below W.heap.size W W' := by
 obtain ⟨a, c, rfl, hcap, hlay⟩ := hC
 have HL := hid hlay
 have BA : Hid (Below W.heap.size W (W.alloc (.cells #[va, .slice a cs.length c] 25))) := (Below.refl _ _).alloc (Nat.le_refl _) _
 have hli : (cs.length : Int) <= 1000 := by omega
 clear hlay hcap
 go_enter Tryz.func45, Tryz.ntmps45
 go_wp2_with fail
 go_loop [6] (fun i => ∃ k : Nat, k <= cs.length /\ i = .int .i64 (k : Int) /\ Hid (zav s (cs.map Rsc.s) 0 = zav s ((cs.map Rsc.s).drop k) k)) (fun i => cs.length - (intOf i).toNat)
 case atStart => exact ⟨0, Nat.zero_le _, rfl, rfl⟩
 case round =>
  obtain ⟨k, hk, rfl, HF⟩ := hrel
  by_cases hlt : k < cs.length
  ·have hki : (k : Int) < (cs.length : Int) := by omega
   obtain ⟨x, hx⟩ := zal cs k hlt
   obtain ⟨b, o, rfl, hc⟩ : ∃ b o, a = some ⟨b, o, none⟩ /\ ∀ (j : Nat) (x : Rsc), cs[j]? = some x -> W.cell? ⟨b, o + j * 2, none⟩ = some (.string x.s) /\ W.cell? ⟨b, o + j * 2 + 1, none⟩ = some (.int .i64 x.n) := by
    rcases HL.out with h | h
    ·rw [h] at hx; simp at hx
    exact h
   have c0 := (hc k x hx).1
   have hbl : b < W.heap.size := World.block_lt_of_cell? W _ c0
   have hbn : ¬ (b = W.heap.size) := by omega
   have FN := hid (zjv s (cs.map Rsc.s) k x.s (by rw [List.getElem?_map, hx]; rfl))
   clear hc hx
   cases hq : eqS x.s s with
   | true =>
    have R : Hid (zav s (cs.map Rsc.s) 0 = (k : Int)) := by show _ = _; rw [HF.out, FN.out, hq]; rfl
    clear FN HF
    unfold eqS at hq
    go_wp2_with fail
    refine bodyPost_ret (v := .tuple #[.int .i64 (k : Int), .bool true]) (by simp [results, Tryz.results45, go_sem]) rfl ⟨by rw [R.out]; unfold zfz; rw [if_neg (by omega)], BA.out⟩
   | false =>
    have R : Hid (zav s (cs.map Rsc.s) 0 = zav s ((cs.map Rsc.s).drop (k + 1)) (k + 1)) := by show _ = _; rw [HF.out, FN.out, hq]; rfl
    clear FN HF
    unfold eqS at hq
    go_wp2_with fail
    go_round
    case rel => exact ⟨k + 1, by omega, by go_num, R.out⟩
    case measure => simp [intOf]; omega
  have hki : ¬ ((k : Int) < (cs.length : Int)) := by omega
  have R : Hid (zav s (cs.map Rsc.s) 0 = -1) := by show _ = _; rw [HF.out, zki _ _ _ (by rw [List.length_map]; omega)]
  go_wp2_with fail
  refine bodyPost_ret (v := .tuple #[.int .i64 0, .bool false]) (by simp [results, Tryz.results45, go_sem]) rfl ⟨by rw [R.out]; rfl, BA.out⟩
end Sc
end Go.Proofs.YthadfdbkkmmgoaaGreatDoor
