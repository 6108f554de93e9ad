/- A part of StoreExact. -/
import Derived.Maps.RangeWalk
import Derived.Test.YtnlcbheidiigaaaGreatDoorMaf
namespace Go.Proofs.YtnlcbheidiigaaaGreatDoor
namespace Sc
open Go.RowKit Go.Shelf
theorem manyL_len (l : ByteArray) (m n : Nat) : (manyL l m n).length ≤ 1 := by unfold manyL; split <;> simp
theorem manyL_yes (l : ByteArray) (m n : Nat) (h : (m : Int) < (n : Int)) : manyL l m n = [([l], 4)] := by unfold manyL; rw [if_pos h]
theorem manyL_no (l : ByteArray) (m n : Nat) (h : ¬ ((m : Int) < (n : Int))) : manyL l m n = [] := by unfold manyL; rw [if_neg h]
theorem add_eq (a b c : ByteArray) (ha : a.size ≤ 1000) (hb : b.size ≤ 1000) (hc : a ++ b = c) (W : World) : (Op.stringOp .add a b).run Tryz.prog W = .ok (.string c) W := by
 subst hc
 exact run_string_add_sum W _ _ (by omega)
theorem Cells7.def {g m : Nat} {x : Cmp} {w : World} {y : Int} (h : Cells7 g x w) (hy : (dl x)[m]? = some y) : w.cell? ⟨g, 3 + m, none⟩ = some (.int .i64 y) := by
 obtain ⟨c0, c1, c2, c3, c4, c5, c6⟩ := h
 match m, hy with
 | 0, hy => simp [dl] at hy; subst hy; exact c3
 | 1, hy => simp [dl] at hy; subst hy; exact c4
 | 2, hy => simp [dl] at hy; subst hy; exact c5
 | 3, hy => simp [dl] at hy; subst hy; exact c6
 | m + 4, hy => simp [dl] at hy
theorem foundV_form (i : Int) : ∃ (n : Int) (b : Bool), foundV i = .tuple #[.int .i64 n, .bool b] ∧ (b = true ↔ 0 ≤ i) ∧ (b = true → n = i) := by
 by_cases h : i < 0
 ·exact ⟨0, false, foundV_no h, by simp; omega, by simp⟩
 ·exact ⟨i, true, foundV_yes h, by simp; omega, by simp⟩
theorem wErr_bad {x : Cmp} (h : ¬ (1 ≤ x.wd ∧ x.wd ≤ 4)) : wErr x = [1] ∧ dErr x = [] := by
 have := wOk_no x h
 simp [wErr, dErr, this]
theorem wErr_ok {x : Cmp} (h : 1 ≤ x.wd ∧ x.wd ≤ 4) : wErr x = [] ∧ dErr x = if clTo x 4 then [] else [1] := by
 have := wOk_yes x h
 exact ⟨by simp [wErr, this], clTo_err this⟩
theorem FG.grown {w0 wr : World} {g : Nat} {x : Cmp} {o : Value} {ls ls' : Leaves} (h : FG w0 g x o ls wr) (e : ls = ls') : FG w0 g x o ls' wr := e ▸ h
theorem FL.grown {w0 wr : World} {o : Value} {ls ls' : Leaves} (h : FL w0 o ls wr) (e : ls = ls') : FL w0 o ls' wr := e ▸ h
set_option maxHeartbeats 4000000 in
set_option maxRecDepth 100000 in
theorem rcheck_any (w : World) (va vb : Value) (cs : List Cmp) (rs : List Rsc) (hC : CmpRow w va cs) (hQ : RscRow w vb rs) (hsC : SmallC cs) (hsQ : SmallQ rs) :
  Calls Tryz.prog 12 #[.agg #[va, vb]] w fun e w' => ∃ lv, e = .returned lv ∧ w'.ownsRow w.heap.size 118 2 lv (checkL cs rs).length (leafCells (checkL cs rs)) ∧ Below w.heap.size w w' := by
 have HC := hid hC
 have HQ := hid hQ
 obtain ⟨a, c, rfl, hcap, hlay⟩ := hC
 obtain ⟨a', c', rfl, hcap', hlay'⟩ := hQ
 have HL := hid hlay
 have HL' := hid hlay'
 have HS := hid hsC
 have HS' := hid hsQ
 have h40 : cs.length ≤ 40 := hsC.1
 have h40' : rs.length ≤ 40 := hsQ.1
 have h40i : (cs.length : Int) ≤ 40 := by omega
 have h40i' : (rs.length : Int) ≤ 40 := by omega
 clear hlay hlay' hcap hcap' hsC hsQ
 obtain ⟨w0, hw0⟩ : ∃ w0, w0 = w.alloc (.cells #[.slice a cs.length c, .slice a' rs.length c'] 25) := ⟨_, rfl⟩
 have B0 : Hid (Below w.heap.size w w0) := by rw [hw0]; exact (Below.refl _ _).alloc (Nat.le_refl _) _
 obtain ⟨x0, x1⟩ := cell_new2 w (.slice a cs.length c) (.slice a' rs.length c') 25
 rw [← hw0] at x0 x1
 have X0 := hid x0
 have X1 := hid x1
 obtain ⟨w00, hw00⟩ : ∃ w00, w00 = w0.alloc (.cells #[] 118) := ⟨_, rfl⟩
 have F0 : Hid (FL w0 (.slice (some ⟨w0.heap.size, 0, none⟩) 0 0) [] w00) := by
  rw [hw00]
  exact ⟨World.ownsRow_lit w0 #[] 0 (Nat.le_refl _) (by simp [maxLen]) rfl, (Below.refl _ _).alloc (Nat.le_refl _) _, by simp⟩
 have x0 := Below.seen F0.out.bel (Nat.le_refl _) x0
 go_enter Tryz.func12, Tryz.ntmps12
 go_upto_region 1 with fail
 rw [← hw0]
 clear hw0
 go_upto_region 2 with fail
 rw [← hw00]
 clear hw00
 go_upto_if 22 with fail
 go_cut [3] (fun s3 wx => FL w0 s3 (manyL bComps 16 cs.length) wx)
 case first =>
  by_cases hm : (16 : Int) < (cs.length : Int)
  ·have R := hid (manyL_yes bComps 16 cs.length hm)
   go_wp2_with (at_builtin; refine wpList_flaw w0 _ rfl (.tmp 23) (.tmp 25) rfl _ [] (by rfl) F0.out [bComps] 4 _ (joinB_one _).symm (by rfl) (by simp) ?_; intro v' w' HF HK)
   go_meet
   exact HF.out.grown (by rw [R.out]; rfl)
  ·have R := hid (manyL_no bComps 16 cs.length hm)
   go_wp2_with fail
   go_meet
   exact F0.out.grown R.out.symm
 case rest =>
  have HF := hid hcut
  clear hcut F0 x0 x1
  go_wp2_with fail
  go_loopg [3, 4, 5, 6, 7, 8, 9, 10] cs.length (fun gh s3 s4 _ _ _ _ _ _ wx => ∃ k : Nat, k ≤ cs.length ∧ gh = cs.length - k ∧ s4 = .int .i64 (k : Int) ∧ Hid (FL w0 s3 (manyL bComps 16 cs.length ++ compL cs k) wx))
  case atStart => exact ⟨0, Nat.zero_le _, rfl, rfl, HF.out.grown (by simp [compL])⟩
  case round =>
   rename World => wo
   obtain ⟨k, hk, rfl, rfl, HK⟩ := hrel
   by_cases hlt : k < cs.length
   ·have hki : (k : Int) < (cs.length : Int) := by omega
    obtain ⟨x, hx⟩ := at_lt cs k hlt
    obtain ⟨b, o, rfl, hc⟩ : ∃ b o, a = some ⟨b, o, none⟩ ∧ ∀ (j : Nat) (x : Cmp), cs[j]? = some x → w.cell? ⟨b, o + j * 7, none⟩ = some (.string x.s) ∧ w.cell? ⟨b, o + j * 7 + 1, none⟩ = some (.int .i64 x.wd) ∧ w.cell? ⟨b, o + j * 7 + 2, none⟩ = some (.bool x.rb) ∧ w.cell? ⟨b, o + j * 7 + 3, none⟩ = some (.int .i64 x.d0) ∧ w.cell? ⟨b, o + j * 7 + 4, none⟩ = some (.int .i64 x.d1) ∧ w.cell? ⟨b, o + j * 7 + 5, none⟩ = some (.int .i64 x.d2) ∧ w.cell? ⟨b, o + j * 7 + 6, none⟩ = some (.int .i64 x.d3) := by
     rcases HL.out with h | h
     ·rw [h] at hx; simp at hx
     ·exact h
    obtain ⟨c0, c1, c2, c3, c4, c5, c6⟩ := hc k x hx
    have BW := hid (B0.out.trans (HK.out.bel.mono B0.out.size))
    have S := fun {p : Addr} {u : Value} (h : w.cell? p = some u) => Below.seen BW.out (Nat.le_refl _) h
    have c0 := S c0
    have c1 := S c1
    have c2 := S c2
    have c3 := S c3
    have c4 := S c4
    have c5 := S c5
    have c6 := S c6
    have y0 := Below.seen HK.out.bel (Nat.le_refl _) X0.out
    have CN := hid (compL_next hx)
    have HX := hid hx
    have hxs : x.s.size ≤ 100 := HS.out.2 x (List.mem_of_getElem? hx)
    obtain ⟨wa, hwa⟩ : ∃ wa, wa = wo.alloc (.cells #[.string x.s, .int .i64 x.wd, .bool x.rb, .int .i64 x.d0, .int .i64 x.d1, .int .i64 x.d2, .int .i64 x.d3] 99) := ⟨_, rfl⟩
    have BA : Hid (Below wo.heap.size wo wa) := by rw [hwa]; exact (Below.refl _ _).alloc (Nat.le_refl _) _
    obtain ⟨g, hg⟩ : ∃ g, g = wo.heap.size := ⟨_, rfl⟩
    obtain ⟨ls, hls⟩ : ∃ ls, ls = manyL bComps 16 cs.length ++ compL cs k := ⟨_, rfl⟩
    have LL : Hid (ls.length ≤ 121) := by
     show _ ≤ _
     rw [hls, List.length_append]
     have := manyL_len bComps 16 cs.length
     have := compL_len cs k
     omega
    rw [← hls] at HK
    have GA : Hid (FG w0 g x _ ls wa) := ⟨HK.out.later BA.out, by
     rw [hwa, hg]
     exact ⟨row_cell wo [.string x.s, .int .i64 x.wd, .bool x.rb, .int .i64 x.d0, .int .i64 x.d1, .int .i64 x.d2, .int .i64 x.d3] 99 0 _ rfl, row_cell wo [.string x.s, .int .i64 x.wd, .bool x.rb, .int .i64 x.d0, .int .i64 x.d1, .int .i64 x.d2, .int .i64 x.d3] 99 1 _ rfl, row_cell wo [.string x.s, .int .i64 x.wd, .bool x.rb, .int .i64 x.d0, .int .i64 x.d1, .int .i64 x.d2, .int .i64 x.d3] 99 2 _ rfl, row_cell wo [.string x.s, .int .i64 x.wd, .bool x.rb, .int .i64 x.d0, .int .i64 x.d1, .int .i64 x.d2, .int .i64 x.d3] 99 3 _ rfl, row_cell wo [.string x.s, .int .i64 x.wd, .bool x.rb, .int .i64 x.d0, .int .i64 x.d1, .int .i64 x.d2, .int .i64 x.d3] 99 4 _ rfl, row_cell wo [.string x.s, .int .i64 x.wd, .bool x.rb, .int .i64 x.d0, .int .i64 x.d1, .int .i64 x.d2, .int .i64 x.d3] 99 5 _ rfl, row_cell wo [.string x.s, .int .i64 x.wd, .bool x.rb, .int .i64 x.d0, .int .i64 x.d1, .int .i64 x.d2, .int .i64 x.d3] 99 6 _ rfl⟩, fun e => by
     have := (HK.out.own.lt _ e).2
     omega⟩
    have DC := hid (digits_any k (by omega) wa)
    have d2 : (dig k).size ≤ 2 := dig_size k (by omega)
    obtain ⟨p1, hp1⟩ : ∃ p1, p1 = (⟨#[99, 111, 109, 112, 111, 110, 101, 110, 116, 115, 47]⟩ : ByteArray) ++ dig k := ⟨_, rfl⟩
    have s1 : p1.size ≤ 20 := by rw [hp1, ByteArray.size_append]; show 11 + _ ≤ _; omega
    obtain ⟨p2, hp2⟩ : ∃ p2, p2 = p1 ++ (⟨#[47]⟩ : ByteArray) := ⟨_, rfl⟩
    have s2 : p2.size ≤ 30 := by rw [hp2, ByteArray.size_append]; show _ + 1 ≤ _; omega
    have a1 := add_eq ⟨#[99, 111, 109, 112, 111, 110, 101, 110, 116, 115, 47]⟩ (dig k) p1 (show 11 ≤ 1000 by decide) (by omega) hp1.symm
    have a2 := add_eq p1 ⟨#[47]⟩ p2 (by omega) (show 1 ≤ 1000 by decide) hp2.symm
    have PJ : ∀ p, p2 ++ p = joinB [bComps, dig k, p] := fun p => by rw [hp2, hp1]; exact path_c (dig k) p
    have a3 := add_eq p2 ⟨#[110, 97, 109, 101]⟩ (joinB [bComps, dig k, bName]) (by omega) (show 4 ≤ 1000 by decide) (PJ _)
    have a4 := add_eq p2 ⟨#[119, 105, 100, 116, 104]⟩ (joinB [bComps, dig k, bWidth]) (by omega) (show 5 ≤ 1000 by decide) (PJ _)
    have a5 := add_eq p2 ⟨#[100, 101, 102, 97, 117, 108, 116]⟩ (joinB [bComps, dig k, bDefault]) (by omega) (show 7 ≤ 1000 by decide) (PJ _)
    have A3 := hid a3
    have A4 := hid a4
    have A5 := hid a5
    clear hp1 hp2 PJ S hc hx s1 s2 a3 a4 a5 d2
    go_upto_region 8 with fail
    rw [← hwa, ← hg]
    clear hwa hg
    go_wp2_with fail
    refine DC.out.mono ?_
    rintro e w1 ⟨rfl, hb1⟩
    have G1 := hid (GA.out.later hb1)
    obtain ⟨c0, c1, c2, c3, c4, c5, c6⟩ := G1.out.cells
    have NC := hid (refname_any x.s w1 (by omega))
    have y0 := Below.seen G1.out.fl.bel (Nat.le_refl _) X0.out
    have y1 := Below.seen G1.out.fl.bel (Nat.le_refl _) X1.out
    clear hb1 DC GA BA HK
    go_wp2_with fail
    refine NC.out.mono ?_
    rintro e w2 ⟨rfl, rfl⟩
    clear NC
    go_upto_if 46 with fail
    go_cut [3] from 27 to 107 (fun s3 wx => FG w0 g x s3 (ls ++ at3 bComps k bName (nErr (seenTo ((cs.take k).map Cmp.s)) x.s)) wx)
    case first =>
     cases hi : isNm x.s with
     | false =>
      have R := hid (nErr_bad (seenTo ((cs.take k).map Cmp.s)) hi)
      have a3 := A3.out
      go_wp2_with (at_builtin; refine wpList_flaw w0 _ rfl (.tmp 47) (.tmp 51) rfl _ ls (by rfl) G1.out.fl [bComps, dig k, bName] 10 _ rfl (by rfl) (by have := LL.out; omega) ?_; intro v' w' HF HK)
      go_meet
      refine (G1.out.app HF.out HK.out).grown ?_
      rw [R.out]; rfl
     | true =>
      have BW2 := hid (B0.out.trans (G1.out.fl.bel.mono B0.out.size))
      have FC := hid (rfind_any w2 _ (.slice a' rs.length c') cs (HC.out.later BW2.out) (by omega) x.s)
      have hmem : x.s ∈ cs.map Cmp.s := List.mem_map.2 ⟨x, List.mem_of_getElem? HX.out, rfl⟩
      have hf0 := (firstI_all x.s (cs.map Cmp.s)).2 hmem
      have FM := hid (firstI_mem x.s (cs.map Cmp.s) 0 k)
      rw [foundV_yes (by omega)] at FC
      generalize firstI x.s (cs.map Cmp.s) 0 = fi at *
      have F0' := hid hf0
      have HI := hid hi
      clear hmem hf0 hi
      go_wp2_with fail
      refine FC.out.mono ?_
      rintro e w3 ⟨rfl, hb3⟩
      have G3 := hid (G1.out.later hb3)
      clear FC hb3
      by_cases hfk : fi < (k : Int)
      ·have R : Hid (nErr (seenTo ((cs.take k).map Cmp.s)) x.s = [9]) := nErr_was HI.out (by rw [List.map_take]; exact FM.out.1 ⟨F0'.out, by omega⟩)
       have a3 := A3.out
       go_wp2_with (at_builtin; refine wpList_flaw w0 _ rfl (.tmp 66) (.tmp 70) rfl _ ls (by rfl) G3.out.fl [bComps, dig k, bName] 9 _ rfl (by rfl) (by have := LL.out; omega) ?_; intro v' w' HF HK)
       go_meet
       refine (G3.out.app HF.out HK.out).grown ?_
       rw [R.out]; rfl
      ·have R : Hid (nErr (seenTo ((cs.take k).map Cmp.s)) x.s = []) := nErr_new HI.out (by rw [List.map_take]; intro h; have := (FM.out.2 h).2; omega)
       go_wp2_with fail
       go_meet
       refine G3.out.grown ?_
       rw [R.out]; simp [at3]
    case rest =>
     have G2 := hid hcut
     obtain ⟨L1, hL1⟩ : ∃ L1, L1 = ls ++ at3 bComps k bName (nErr (seenTo ((cs.take k).map Cmp.s)) x.s) := ⟨_, rfl⟩
     have LL1 : Hid (L1.length ≤ 122) := by
      show _ ≤ _
      rw [hL1, List.length_append, at3_len]
      have := (nErr_len (seenTo ((cs.take k).map Cmp.s)) x.s).1
      have := LL.out
      omega
     rw [← hL1] at G2
     have CE : Hid (manyL bComps 16 cs.length ++ compL cs (k + 1) = L1 ++ (at3 bComps k bWidth (wErr x) ++ at3 bComps k bDefault (dErr x))) := by
      show _ = _
      rw [CN.out, hL1, hls]; simp [leafC]
     clear hcut G1 hL1 hls CN HX A3 c0 c1 c2 c3 c4 c5 c6 a1 a2 y0 y1
     obtain ⟨c0, c1, c2, c3, c4, c5, c6⟩ := G2.out.cells
     by_cases hw : 1 ≤ x.wd ∧ x.wd ≤ 4
     ·obtain ⟨we, de⟩ := wErr_ok hw
      obtain ⟨hw1, hw4⟩ := hw
      obtain ⟨m0, hm0⟩ : ∃ m0 : Nat, x.wd = (m0 : Int) := Int.eq_ofNat_of_zero_le (by omega)
      have htn : x.wd.toNat = m0 := by omega
      have CF : Hid (clTo x m0 = true) := by rw [← htn]; exact clTo_from x
      have CW := hid htn
      rw [hm0] at c1 hw1 hw4
      rw [we, de] at CE
      have h04 : m0 ≤ 4 := by omega
      have n1 : ¬ ((m0 : Int) < 1) := by omega
      have n4 : ¬ ((4 : Int) < (m0 : Int)) := by omega
      clear we de hm0 htn c2 c3 c4 c5 c6 hw1 hw4
      go_wp2_with fail
      go_loopg [9, 10] (4 - m0) (fun gh s9 s10 wx => wx = wc ∧ ∃ m : Nat, m0 ≤ m ∧ m ≤ 4 ∧ gh = 4 - m ∧ s10 = .int .i64 (m : Int) ∧ ∃ cl : Bool, s9 = .bool cl ∧ Hid (cl = clTo x m))
      case atStart => exact ⟨rfl, m0, Nat.le_refl _, h04, rfl, rfl, true, rfl, CF.out.symm⟩
      case round =>
       obtain ⟨rfl, m, hm1, hm2, rfl, rfl, cl, rfl, HCl⟩ := hrel
       by_cases hm : m < 4
       ·have hmi : (m : Int) < 4 := by omega
        obtain ⟨y, hy⟩ := at_lt (dl x) m hm
        have cy := G2.out.cells.def hy
        have CX := hid (clTo_next hy (by have := CW.out; omega))
        clear hy
        cases cl with
        | false =>
         have R : Hid (false = clTo x (m + 1)) := by show _ = _; rw [CX.out, ← HCl.out]; rfl
         clear HCl CX cy
         go_wp2_with fail
         go_roundg (4 - (m + 1))
         case measure => omega
         case rel => exact ⟨rfl, m + 1, by omega, by omega, rfl, by go_num, false, rfl, R.out⟩
        | true =>
         have R : Hid ((y == 0) = clTo x (m + 1)) := by show _ = _; rw [CX.out, ← HCl.out]; rfl
         clear HCl CX
         go_wp2_with fail
         go_roundg (4 - (m + 1))
         case measure => omega
         case rel => exact ⟨rfl, m + 1, by omega, by omega, rfl, by go_num, (y == 0), rfl, R.out⟩
       ·have hmi : ¬ ((m : Int) < 4) := by omega
        have hm4 : m = 4 := by omega
        rw [hm4] at HCl
        cases cl with
        | true =>
         have R : Hid (L1 = manyL bComps 16 cs.length ++ compL cs (k + 1)) := by show _ = _; rw [CE.out, ← HCl.out]; simp [at3]
         clear HCl hm4
         go_wp2_with fail
         go_roundg (cs.length - (k + 1))
         case measure => omega
         case rel => exact ⟨k + 1, by omega, rfl, by go_num, G2.out.fl.grown R.out⟩
        | false =>
         have R : Hid (L1 ++ [([bComps, dig k, bDefault], 1)] = manyL bComps 16 cs.length ++ compL cs (k + 1)) := by show _ = _; rw [CE.out, ← HCl.out]; simp [at3]
         have a5 := A5.out
         clear HCl hm4
         go_wp2_with (at_builtin; refine wpList_flaw w0 _ rfl (.tmp 102) (.tmp 106) rfl _ L1 (by rfl) G2.out.fl [bComps, dig k, bDefault] 1 _ rfl (by rfl) (by have := LL1.out; omega) ?_; intro v' w' HF HK)
         go_roundg (cs.length - (k + 1))
         case measure => omega
         case rel => exact ⟨k + 1, by omega, rfl, by go_num, HF.out.grown R.out⟩
     ·obtain ⟨we, de⟩ := wErr_bad hw
      have R : Hid (L1 ++ [([bComps, dig k, bWidth], 1)] = manyL bComps 16 cs.length ++ compL cs (k + 1)) := by show _ = _; rw [CE.out, we, de]; simp [at3]
      have a4 := A4.out
      clear we de CE
      by_cases hw1 : x.wd < 1
      ·clear hw
       go_wp2_with (at_builtin; refine wpList_flaw w0 _ rfl (.tmp 80) (.tmp 84) rfl _ L1 (by rfl) G2.out.fl [bComps, dig k, bWidth] 1 _ rfl (by rfl) (by have := LL1.out; omega) ?_; intro v' w' HF HK)
       go_roundg (cs.length - (k + 1))
       case measure => omega
       case rel => exact ⟨k + 1, by omega, rfl, by go_num, HF.out.grown R.out⟩
      ·have hw4 : (4 : Int) < x.wd := by omega
       clear hw
       go_wp2_with (at_builtin; refine wpList_flaw w0 _ rfl (.tmp 80) (.tmp 84) rfl _ L1 (by rfl) G2.out.fl [bComps, dig k, bWidth] 1 _ rfl (by rfl) (by have := LL1.out; omega) ?_; intro v' w' HF HK)
       go_roundg (cs.length - (k + 1))
       case measure => omega
       case rel => exact ⟨k + 1, by omega, rfl, by go_num, HF.out.grown R.out⟩
   ·have hki : ¬ ((k : Int) < (cs.length : Int)) := by omega
    have hkl : k = cs.length := by omega
    obtain ⟨M1, hM1⟩ : ∃ M1, M1 = manyL bComps 16 cs.length ++ compL cs cs.length := ⟨_, rfl⟩
    have ML : Hid (M1.length ≤ 121) := by
     show _ ≤ _
     rw [hM1, List.length_append]
     have := manyL_len bComps 16 cs.length
     have := compL_len cs cs.length
     omega
    have HM := hid hM1
    rw [hkl, ← hM1] at HK
    have y0 := Below.seen HK.out.bel (Nat.le_refl _) X0.out
    have y1 := Below.seen HK.out.bel (Nat.le_refl _) X1.out
    clear hkl hM1
    go_upto_if 111 with fail
    go_cut [3] (fun s3 wx => FL w0 s3 (M1 ++ manyL bRes 8 rs.length) wx)
    case first =>
     by_cases hm : (8 : Int) < (rs.length : Int)
     ·have R := hid (manyL_yes bRes 8 rs.length hm)
      go_wp2_with (at_builtin; refine wpList_flaw w0 _ rfl (.tmp 112) (.tmp 114) rfl _ M1 (by rfl) HK.out [bRes] 4 _ (joinB_one _).symm (by rfl) (by have := ML.out; omega) ?_; intro v' w' HF HK)
      go_meet
      exact HF.out.grown (by rw [R.out])
     ·have R := hid (manyL_no bRes 8 rs.length hm)
      go_wp2_with fail
      go_meet
      exact HK.out.grown (by rw [R.out, List.append_nil])
    case rest =>
     have HF := hid hcut
     clear hcut HK y0 y1 hki hk hlt
     go_wp2_with fail
     go_loopg [3, 11, 12, 13, 14, 15, 16, 17] rs.length (fun gh s3 s11 _ _ _ _ _ _ wx => ∃ k : Nat, k ≤ rs.length ∧ gh = rs.length - k ∧ s11 = .int .i64 (k : Int) ∧ Hid (FL w0 s3 (M1 ++ manyL bRes 8 rs.length ++ resL cs rs k) wx))
     case atStart => exact ⟨0, Nat.zero_le _, rfl, rfl, HF.out.grown (by simp [resL])⟩
     case round =>
      rename World => wq
      obtain ⟨j, hj, rfl, rfl, HK⟩ := hrel
      have y0 := Below.seen HK.out.bel (Nat.le_refl _) X0.out
      have y1 := Below.seen HK.out.bel (Nat.le_refl _) X1.out
      by_cases hjl : j < rs.length
      ·have hji : (j : Int) < (rs.length : Int) := by omega
       obtain ⟨x, hx⟩ := at_lt rs j hjl
       obtain ⟨b', o', rfl, hc⟩ : ∃ b o, a' = some ⟨b, o, none⟩ ∧ ∀ (j : Nat) (x : Rsc), rs[j]? = some x → w.cell? ⟨b, o + j * 2, none⟩ = some (.string x.s) ∧ w.cell? ⟨b, o + j * 2 + 1, none⟩ = some (.int .i64 x.n) := by
        rcases HL'.out with h | h
        ·rw [h] at hx; simp at hx
        ·exact h
       have BW := hid (B0.out.trans (HK.out.bel.mono B0.out.size))
       have c0 := Below.seen BW.out (Nat.le_refl _) (hc j x hx).1
       have RN := hid (resL_next (cs := cs) hx)
       have hxs : x.s.size ≤ 100 := HS'.out.2 x (List.mem_of_getElem? hx)
       obtain ⟨ls, hls⟩ : ∃ ls, ls = M1 ++ manyL bRes 8 rs.length ++ resL cs rs j := ⟨_, rfl⟩
       have LL : Hid (ls.length ≤ 170) := by
        show _ ≤ _
        rw [hls, List.length_append, List.length_append]
        have := ML.out
        have := manyL_len bRes 8 rs.length
        have := resL_len cs rs j
        omega
       have LN : Hid (M1 ++ manyL bRes 8 rs.length ++ resL cs rs (j + 1) = ls ++ at3 bRes j bName (nErr (seenTo (cs.map Cmp.s ++ (rs.take j).map Rsc.s)) x.s)) := by
        show _ = _
        rw [RN.out, hls, List.append_assoc _ (resL cs rs j)]
       rw [← hls] at HK
       have DC := hid (digits_any j (by omega) wq)
       have d2 : (dig j).size ≤ 2 := dig_size j (by omega)
       obtain ⟨p1, hp1⟩ : ∃ p1, p1 = (⟨#[114, 101, 115, 111, 117, 114, 99, 101, 115, 47]⟩ : ByteArray) ++ dig j := ⟨_, rfl⟩
       have s1 : p1.size ≤ 20 := by rw [hp1, ByteArray.size_append]; show 10 + _ ≤ _; omega
       have a1 := add_eq ⟨#[114, 101, 115, 111, 117, 114, 99, 101, 115, 47]⟩ (dig j) p1 (show 10 ≤ 1000 by decide) (by omega) hp1.symm
       have a2 := add_eq p1 ⟨#[47, 110, 97, 109, 101]⟩ (joinB [bRes, dig j, bName]) (by omega) (show 5 ≤ 1000 by decide) (by rw [hp1]; exact path_r (dig j))
       clear hp1 hc hx s1 d2 hls RN
       go_wp2_with fail
       refine DC.out.mono ?_
       rintro e w1 ⟨rfl, hb1⟩
       have K1 := hid (HK.out.later hb1)
       have y0 := Below.seen K1.out.bel (Nat.le_refl _) X0.out
       have y1 := Below.seen K1.out.bel (Nat.le_refl _) X1.out
       have BW1 := hid (B0.out.trans (K1.out.bel.mono B0.out.size))
       have FC := hid (rfind_any w1 _ (.slice (some ⟨b', o', none⟩) rs.length c') cs (HC.out.later BW1.out) (by omega) x.s)
       have FA := hid (firstI_all x.s (cs.map Cmp.s))
       obtain ⟨n1, b1, hv1, hb1', hn1⟩ := foundV_form (firstI x.s (cs.map Cmp.s) 0)
       rw [hv1] at FC
       have I1 : Hid (b1 = true ↔ x.s ∈ cs.map Cmp.s) := hb1'.trans FA.out
       clear hb1 DC HK c0 hv1 hb1' hn1 FA
       go_wp2_with fail
       refine FC.out.mono ?_
       rintro e w2 ⟨rfl, hb2⟩
       have K2 := hid (K1.out.later hb2)
       have y0 := Below.seen K2.out.bel (Nat.le_refl _) X0.out
       have y1 := Below.seen K2.out.bel (Nat.le_refl _) X1.out
       have BW2 := hid (B0.out.trans (K2.out.bel.mono B0.out.size))
       have RC := hid (rresource_any w2 (.slice a cs.length c) _ rs (HQ.out.later BW2.out) (by omega) x.s)
       have FM := hid (firstI_mem x.s (rs.map Rsc.s) 0 j)
       obtain ⟨n2, b2, hv2, hb2', hn2⟩ := foundV_form (firstI x.s (rs.map Rsc.s) 0)
       rw [hv2] at RC
       have I2 : Hid ((b2 = true ∧ n2 < (j : Int)) ↔ x.s ∈ (rs.take j).map Rsc.s) := by
        show _ ↔ _
        rw [List.map_take, ← FM.out]
        constructor
        ·rintro ⟨h1, h2⟩
         exact ⟨hb2'.1 h1, by rw [← hn2 h1]; omega⟩
        ·rintro ⟨h1, h2⟩
         have h3 := hb2'.2 h1
         exact ⟨h3, by rw [hn2 h3]; omega⟩
       clear hb2 FC K1 hv2 hb2' hn2 FM
       go_wp2_with fail
       refine RC.out.mono ?_
       rintro e w3 ⟨rfl, hb3⟩
       have K3 := hid (K2.out.later hb3)
       have y0 := Below.seen K3.out.bel (Nat.le_refl _) X0.out
       have y1 := Below.seen K3.out.bel (Nat.le_refl _) X1.out
       have NC := hid (refname_any x.s w3 (by omega))
       clear hb3 RC K2
       go_wp2_with fail
       refine NC.out.mono ?_
       rintro e w4 ⟨rfl, rfl⟩
       clear NC
       cases hi : isNm x.s with
       | false =>
        have R : Hid (ls ++ [([bRes, dig j, bName], 10)] = M1 ++ manyL bRes 8 rs.length ++ resL cs rs (j + 1)) := by show _ = _; rw [LN.out, nErr_bad _ hi]; rfl
        clear LN I1 I2
        go_wp2_with (at_builtin; refine wpList_flaw w0 _ rfl (.tmp 148) (.tmp 151) rfl _ ls (by rfl) K3.out [bRes, dig j, bName] 10 _ rfl (by rfl) (by have := LL.out; omega) ?_; intro v' w' HF HK)
        go_roundg (rs.length - (j + 1))
        case measure => omega
        case rel => exact ⟨j + 1, by omega, rfl, by go_num, HF.out.grown R.out⟩
       | true =>
        cases b1 with
        | true =>
         have R : Hid (ls ++ [([bRes, dig j, bName], 9)] = M1 ++ manyL bRes 8 rs.length ++ resL cs rs (j + 1)) := by show _ = _; rw [LN.out, nErr_was hi (List.mem_append.2 (.inl (I1.out.1 rfl)))]; rfl
         clear LN I1 I2
         go_wp2_with (at_builtin; refine wpList_flaw w0 _ rfl (.tmp 162) (.tmp 165) rfl _ ls (by rfl) K3.out [bRes, dig j, bName] 9 _ rfl (by rfl) (by have := LL.out; omega) ?_; intro v' w' HF HK)
         go_roundg (rs.length - (j + 1))
         case measure => omega
         case rel => exact ⟨j + 1, by omega, rfl, by go_num, HF.out.grown R.out⟩
        | false =>
         have N1 : Hid (¬ x.s ∈ cs.map Cmp.s) := fun h => Bool.false_ne_true (I1.out.2 h)
         cases b2 with
         | false =>
          have R : Hid (ls = M1 ++ manyL bRes 8 rs.length ++ resL cs rs (j + 1)) := by
           show _ = _
           rw [LN.out, nErr_new hi (fun h => (List.mem_append.1 h).elim N1.out (fun h => Bool.false_ne_true (I2.out.2 h).1))]; simp [at3]
          clear LN I1 I2 N1
          go_wp2_with fail
          go_roundg (rs.length - (j + 1))
          case measure => omega
          case rel => exact ⟨j + 1, by omega, rfl, by go_num, K3.out.grown R.out⟩
         | true =>
          by_cases hnj : n2 < (j : Int)
          ·have R : Hid (ls ++ [([bRes, dig j, bName], 9)] = M1 ++ manyL bRes 8 rs.length ++ resL cs rs (j + 1)) := by show _ = _; rw [LN.out, nErr_was hi (List.mem_append.2 (.inr (I2.out.1 ⟨rfl, hnj⟩)))]; rfl
           clear LN I1 I2 N1
           go_wp2_with (at_builtin; refine wpList_flaw w0 _ rfl (.tmp 162) (.tmp 165) rfl _ ls (by rfl) K3.out [bRes, dig j, bName] 9 _ rfl (by rfl) (by have := LL.out; omega) ?_; intro v' w' HF HK)
           go_roundg (rs.length - (j + 1))
           case measure => omega
           case rel => exact ⟨j + 1, by omega, rfl, by go_num, HF.out.grown R.out⟩
          ·have R : Hid (ls = M1 ++ manyL bRes 8 rs.length ++ resL cs rs (j + 1)) := by
            show _ = _
            rw [LN.out, nErr_new hi (fun h => (List.mem_append.1 h).elim N1.out (fun h => hnj (I2.out.2 h).2))]; simp [at3]
           clear LN I1 I2 N1
           go_wp2_with fail
           go_roundg (rs.length - (j + 1))
           case measure => omega
           case rel => exact ⟨j + 1, by omega, rfl, by go_num, K3.out.grown R.out⟩
      ·have hji : ¬ ((j : Int) < (rs.length : Int)) := by omega
       have R : Hid (M1 ++ manyL bRes 8 rs.length ++ resL cs rs j = checkL cs rs) := by
        show _ = _
        rw [HM.out, show j = rs.length by omega]
        simp [checkL]
       have FE := hid (HK.out.grown R.out)
       clear R HK
       go_wp2_with fail
       go_ret
       exact ⟨_, rfl, FE.out.own.mono B0.out.size, B0.out.trans (FE.out.bel.mono B0.out.size)⟩
end Sc
namespace Co
open Go.RowKit Go.Shelf Go.Maps
set_option maxHeartbeats 1600000 in
set_option maxRecDepth 100000 in
theorem set_cell (Ad : Nat → Addr) {B : Nat} {W : World} {rb mb : Nat} {sv : Value} {s : CS} (h : Cl B W rb mb sv s) (hE : Env3 W Ad) (n : Nat) (p : Pt) (hp : s.rows[n]? = some p) (cell value frame : Int) (hc : cell < 0 ∨ (s.w : Int) ≤ cell) :
  Calls Tryz.prog 84 #[.pointer (some ⟨rb, 0, none⟩), .int .i64 (n : Int), .int .i64 cell, .int .i64 value, .int .i64 frame] W fun e W' => ∃ t q, e = .returned (.tuple #[.agg #[.int .i64 0, .int .i64 0, .int .i64 0, .int .i64 0, .int .i64 0, .int .i64 0], .iface t q]) ∧ Err Ad W' (.iface t q) 1 2 ∧ Below W.heap.size W W' := by
 have BA : Hid (Below W.heap.size W (W.alloc (.cells #[.int .i64 0, .int .i64 0, .int .i64 0, .int .i64 0, .int .i64 0, .int .i64 0] 47))) := bAl _ _
 have RW := hid (row_some (h.later BA.out) n p hp)
 have HE := hid hE
 have AC := hid (fun s v d w h => at_err Ad s v 1 d w h)
 have H := hid h
 unfold Pt.val at RW
 rcases hc with hc | hc
 all_goals
  clear h hE hp
  try (have hc0 : ¬ (cell < 0) := by omega)
  go_enter Tryz.func84, Tryz.ntmps84
  go_wp2_with fail
  refine RW.out.mono ?_
  rintro e w1 ⟨rfl, hb⟩
  have HH : Hid (w1.heap[W.heap.size]? = some (.cells (Pt.zero.arr 0) 47 (0, 0))) := blk_seen hb (Nat.le_refl _) (heap_alloc_new W (.cells #[.int .i64 0, .int .i64 0, .int .i64 0, .int .i64 0, .int .i64 0, .int .i64 0] 47))
  have B1 := hid (BA.out.trans (hb.mono BA.out.size))
  clear hb RW
  obtain ⟨w2, hw2⟩ : ∃ w2, w2 = w1.alloc (.cells #[.int .i64 s.comp, .int .i64 p.a, .int .i64 p.b, .int .i64 p.c, .int .i64 p.d, .int .i64 p.t] 47) := ⟨_, rfl⟩
  have b12 : Below w1.heap.size w1 w2 := by rw [hw2]; exact bAl _ _
  have B2 := hid (B1.out.trans (b12.mono B1.out.size))
  have H2 := hid (blk_seen b12 (Nat.le_refl _) HH.out)
  have HW2 := hid hw2
  have e1 := (HE.out.later B1.out).c1
  have hel := World.block_lt_of_cell? w1 _ e1
  have hen := World.new_ne w1 _ e1
  have c1 := (H.out.later B1.out).c1
  have hrl := World.block_lt_of_cell? w1 _ c1
  have hrn := World.new_ne w1 _ c1
  clear hw2 b12
  go_wp2_with fail
  rw [← HW2.out]
  refine (AC.out _ _ 0 _ (err_leaf Ad _ 1 (by decide))).mono ?_
  rintro e w3 ⟨t3, q3, rfl, hv3, hb3⟩
  have HV3 := hid hv3
  have B3 := hid (B2.out.trans (hb3.mono B2.out.size))
  have H3 := hid (blk_seen hb3 (Nat.le_refl _) H2.out)
  clear hv3 hb3 e1 hel hen c1 hrl hrn
  go_wp2_with fail
  refine (AC.out _ _ 1 _ HV3.out).mono ?_
  rintro e w4 ⟨t4, q4, rfl, hv4, hb4⟩
  have HV4 := hid hv4
  have B4 := hid (B3.out.trans (hb4.mono B3.out.size))
  have H4 := hid (blk_seen hb4 (Nat.le_refl _) H3.out)
  obtain ⟨d0, d1, d2, d3, d4, d5, f0, f1, f2, f3, f4, f5⟩ := lies H4.out
  unfold Pt.zero at d1 d2 d3 d4 d5
  clear hv4 hb4 AC
  go_wp2_with fail
  have PS := put6_same H4.out
  unfold put6 Pt.zero at PS
  rw [PS]
  exact bodyPost_ret (v := .tuple #[.agg #[.int .i64 0, .int .i64 0, .int .i64 0, .int .i64 0, .int .i64 0, .int .i64 0], .iface t4 q4]) (by simp [results, Tryz.results84, go_sem, d0, d1, d2, d3, d4, d5]) rfl ⟨t4, q4, rfl, HV4.out, B4.out⟩
def CS.turned (s : CS) (n : Nat) (p : Pt) : CS := ⟨s.comp, s.w, s.rows.set n p⟩
theorem Cl.written {B : Nat} {W W' : World} {rb mb g cap : Nat} {cur' : Array Value} {s : CS} (h : Cl B W rb mb (.slice (some ⟨g, 0, none⟩) (s.rows.length * s.w) cap) s) (n : Nat) (p : Pt) (hf : p.fitB s.w = true) (ht : I64 p.t)
  (hcl : s.rows.length * s.w ≤ cap) (hcm : cap ≤ maxLen) (hcs : cur'.size = cap) (hfl : cur'.toList.take (s.rows.length * s.w) = flat s.w (s.rows.set n p)) (hBg : B ≤ g)
  (hbox : W'.heap[rb]? = some (.cells #[.int .i64 s.comp, .int .i64 (s.w : Int), .slice (some ⟨g, 0, none⟩) (s.rows.length * s.w) cap, .map (some mb)] 224 (0, 0)))
  (hg : W'.heap[g]? = some (.cells cur' 3 (0, 0)))
  (D : DataW Unit) (hD : W'.ownsMap Tryz.prog 3 (plainElem Tryz.prog 3) mb (s.rows.length + 1) D) (hH : Holds D (s.rows.set n p)) :
  Cl B W' rb mb (.slice (some ⟨g, 0, none⟩) (s.rows.length * s.w) cap) (s.turned n p) := by
 have hw4 := h.ok.w4
 have hl : (s.rows.set n p).length = s.rows.length := by simp
 refine ⟨hbox, ?_, ⟨D, own_size hD hH.2, hH⟩, ⟨h.ok.w0, hw4, ?_⟩, ?_, h.low⟩
 ·show World.ownsRow _ _ _ _ _ ((s.rows.set n p).length * s.w) (flat s.w (s.rows.set n p))
  rw [hl]
  exact ⟨by rw [flat_len hw4, hl]; omega, .inr ⟨g, cap, cur', rfl, hBg, hg, hcl, hcm, by omega, by rw [Nat.mul_one]; exact hfl⟩⟩
 ·intro q hq
  rcases List.mem_or_eq_of_mem_set hq with h1 | h1
  ·exact h.ok.fit q h1
  ·subst h1; exact ⟨hf, ht⟩
 ·show (s.rows.set n p).length ≤ 1000
  rw [hl]; exact h.small
set_option maxHeartbeats 3200000 in
set_option maxRecDepth 100000 in
theorem set_ok {B : Nat} {W : World} {rb mb : Nat} {sv : Value} {s : CS} (h : Cl B W rb mb sv s) (n : Nat) (p : Pt) (hp : s.rows[n]? = some p) (j : Nat) (hj : j < s.w) (value frame : Int) (hfr : I64 frame) :
  Calls Tryz.prog 84 #[.pointer (some ⟨rb, 0, none⟩), .int .i64 (n : Int), .int .i64 (j : Int), .int .i64 value, .int .i64 frame] W fun e W' => e = .returned (.tuple #[p.val s.comp, .nilIface]) ∧ ∃ sv', Cl B W' rb mb sv' (s.turned n (p.put j value frame)) ∧ sv'.ownBlock = sv.ownBlock ∧ St (Ft rb mb sv) W W' := by
 have hnl : n < s.rows.length := (List.getElem?_eq_some_iff.1 hp).1
 have hsm := h.small
 obtain ⟨g, cap, cur, hsv, hBg, hg, hLc, hcm, hcs, hfl⟩ := h.cells (by omega)
 subst hsv
 have hw0 := h.ok.w0
 have hw4 := h.ok.w4
 have H := hid h
 have HP := hid hp
 have BA : Hid (Below W.heap.size W (W.alloc (.cells #[.int .i64 0, .int .i64 0, .int .i64 0, .int .i64 0, .int .i64 0, .int .i64 0] 47))) := bAl _ _
 have RW := hid (row_some (h.later BA.out) n p hp)
 have hgW : g < W.heap.size := (h.lt g (.inr (.inr rfl))).2
 have hrW : rb < W.heap.size := (h.lt rb (.inl rfl)).2
 have hmW : mb < W.heap.size := (h.lt mb (.inr (.inl rfl))).2
 have HG := hid hg
 have HFL := hid hfl
 have HFR := hid hfr
 have hji : (j : Int) < (s.w : Int) := by omega
 have hj0 : ¬ ((j : Int) < 0) := by omega
 have hjw : ¬ ((s.w : Int) ≤ (j : Int)) := by omega
 have hwi : (s.w : Int) ≤ 4 := by omega
 unfold Pt.val at RW ⊢
 clear h hp hg hfl hfr
 go_enter Tryz.func84, Tryz.ntmps84
 go_wp2_with fail
 refine RW.out.mono ?_
 rintro e w1 ⟨rfl, hb⟩
 have R1 : Hid (w1.heap[W.heap.size]? = some (.cells (Pt.zero.arr 0) 47 (0, 0))) := blk_seen hb (Nat.le_refl _) (heap_alloc_new W (.cells #[.int .i64 0, .int .i64 0, .int .i64 0, .int .i64 0, .int .i64 0, .int .i64 0] 47))
 have B1 := hid (BA.out.trans (hb.mono BA.out.size))
 have hz1 : W.heap.size < w1.heap.size := by have := hb.size; simp at this; omega
 clear hb RW
 obtain ⟨w2, hw2⟩ : ∃ w2, w2 = w1.alloc (.cells #[.int .i64 s.comp, .int .i64 p.a, .int .i64 p.b, .int .i64 p.c, .int .i64 p.d, .int .i64 p.t] 47) := ⟨_, rfl⟩
 have b12 : Below w1.heap.size w1 w2 := by rw [hw2]; exact bAl _ _
 have B2 := hid (B1.out.trans (b12.mono B1.out.size))
 have R2 := hid (blk_seen b12 (Nat.le_refl _) R1.out)
 have O2 : Hid (w2.heap[w1.heap.size]? = some (.cells (p.arr s.comp) 47 (0, 0))) := by rw [hw2]; exact heap_alloc_new w1 _
 have C2 := hid (H.out.later B2.out)
 have G2 := hid (blk_seen B2.out (Nat.le_refl _) HG.out)
 have HW2 := hid hw2
 have c1 := (H.out.later B1.out).c1
 have hrl := World.block_lt_of_cell? w1 _ c1
 have hrn := World.new_ne w1 _ c1
 have hnw : n * s.w + s.w ≤ s.rows.length * s.w := by rw [← Nat.succ_mul]; exact Nat.mul_le_mul_right _ hnl
 have hL4 : s.rows.length * s.w ≤ 4000 := by have := Nat.mul_le_mul hsm hw4; omega
 have CR := hid (crow_any (W := w2) C2.out.c1 C2.out.c2 (n := n) rfl hnw hLc hL4 hw0 hw4 (by omega))
 clear b12 hw2
 go_wp2_with fail
 rw [← HW2.out]
 refine CR.out.mono ?_
 rintro e w3 ⟨rfl, m, rfl⟩
 obtain ⟨o, ho⟩ : ∃ o, n * s.w = o := ⟨_, rfl⟩
 rw [ho] at hnw
 have hos : o + j < cur.size := by omega
 have cc : (w2.drewN m).cell? ⟨g, o + j, none⟩ = some cur[o + j] := cell_blk (W := w2.drewN m) G2.out (Array.getElem?_eq_getElem hos)
 have cf : (w2.drewN m).frozen? ⟨g, o + j, none⟩ = false := blk_free (W := w2.drewN m) G2.out (o + j)
 rw [ho]
 have HO := hid ho
 clear ho c1 hrl hrn CR
 generalize hcv : cur[o + j] = cv at cc
 clear hcv
 obtain ⟨w4, hw4'⟩ : ∃ w4, w4 = (w2.drewN m).setCell ⟨g, o + j, none⟩ (.int .i64 value) := ⟨_, rfl⟩
 have ngr : g ≠ rb := (C2.out.ne_f g rfl).1
 have ngm : g ≠ mb := (C2.out.ne_f g rfl).2
 have nrm : rb ≠ mb := C2.out.ne_rm
 have s24 : St (fun k => k = g) w2 w4 := by rw [hw4']; exact (drewN_st (fun k => k = g) w2 _).trans (St.setCell (S := fun k => k = g) (p := ⟨g, o + j, none⟩) _ rfl) fun _ _ q => q
 have G4 : Hid (w4.heap[g]? = some (.cells (cur.setIfInBounds (o + j) (.int .i64 value)) 3 (0, 0))) := by rw [hw4']; exact heap_setCell_same (w2.drewN m) g (o + j) cur 3 _ G2.out
 have X4 := hid (s24.at C2.out.box (fun e => ngr e.symm))
 have R4 := hid (s24.at R2.out (by omega))
 have O4 := hid (s24.at O2.out (by omega))
 obtain ⟨D, hD, hH⟩ := C2.out.map
 have hD4 := s24.map hD (fun e => ngm e.symm)
 have hIn : I64 (n : Int) := I64_mid (by omega) (by omega)
 obtain ⟨w5, hmu, hD5, ht5⟩ := hD4.store keyed3 Tryz.underlying222 (by unfold maxLen; omega) (key_int (n : Int) hIn) (plainElem_int Tryz.underlying3 HFR.out)
 have hH5 := hH.set (hD.tidy keyed3) hnl (p.put j value frame) hIn
 rw [Pt.put_t] at hH5
 have s45 := map_st' ht5
 have X5 := hid (s45.at X4.out nrm)
 have G5 := hid (s45.at G4.out ngm)
 have hz2 : w1.heap.size < w2.heap.size := (Array.getElem?_eq_some_iff.1 O2.out).1
 have R5 := hid (s45.at R4.out (by omega))
 have O5 := hid (s45.at O4.out (by omega))
 have S25 : Hid (St (Ft rb mb (.slice (some ⟨g, 0, none⟩) (s.rows.length * s.w) cap)) w2 w5) := (St.trans (S := Ft rb mb (.slice (some ⟨g, 0, none⟩) (s.rows.length * s.w) cap)) ⟨s24.os, s24.tape, s24.output, s24.size, fun k hk hn => s24.block k hk fun e => hn (.inr (.inr (by rw [e]; rfl)))⟩ s45 fun _ _ q => .inr (.inl q))
 have HD5 := hid hD5
 have HH5 := hid hH5
 have k3 := cell_blk X4.out (j := 3) rfl
 have HW4 := hid hw4'
 rw [hw4'] at k3 hmu
 have lg : g < w2.heap.size := by have := B2.out.size; omega
 have lr : rb < w2.heap.size := by have := B2.out.size; omega
 obtain ⟨d0, d1, d2, d3, d4, d5, -, -, -, -, -, -⟩ := lies O5.out
 obtain ⟨x0, x1, x2, x3, x4, x5, f0, f1, f2, f3, f4, f5⟩ := lies R5.out
 clear hD hH hD4 hD5 hH5 ht5 s24 s45 hw4'
 go_wp2_with fail
 have PB := put6_blk R5.out rfl s.comp p
 have PS := put6_st w5 W.heap.size s.comp p
 unfold put6 at PB PS
 obtain ⟨d0, d1, d2, d3, d4, d5, -, -, -, -, -, -⟩ := lies PB
 generalize (((((w5.setCell ⟨W.heap.size, 0, none⟩ (.int .i64 s.comp)).setCell ⟨W.heap.size, 1, none⟩ (.int .i64 p.a)).setCell ⟨W.heap.size, 2, none⟩ (.int .i64 p.b)).setCell ⟨W.heap.size, 3, none⟩ (.int .i64 p.c)).setCell ⟨W.heap.size, 4, none⟩ (.int .i64 p.d)).setCell ⟨W.heap.size, 5, none⟩ (.int .i64 p.t) = w8 at *
 have X8 := PS.at X5.out (by omega)
 have G8 := PS.at G5.out (by omega)
 have D8 := PS.map HD5.out (by omega)
 have hfit := H.out.ok.fit p (List.mem_of_getElem? HP.out)
 have FN := H.out.written n (p.put j value frame) (by rw [Pt.put_fit p hw4 hj]; exact hfit.1) (by rw [Pt.put_t]; exact HFR.out) hLc hcm (by simp; exact hcs) (by
  rw [Array.toList_setIfInBounds, ← HO.out]
  exact set_take hw4 HFL.out HP.out hj value frame) hBg X8 G8 _ D8 HH5.out
 have SF : St (Ft rb mb (.slice (some ⟨g, 0, none⟩) (s.rows.length * s.w) cap)) W w8 := ((St.of_below B2.out).trans S25.out fun _ _ q => q).trans PS fun k hk q => by omega
 exact bodyPost_ret (v := .tuple #[.agg #[.int .i64 s.comp, .int .i64 p.a, .int .i64 p.b, .int .i64 p.c, .int .i64 p.d, .int .i64 p.t], .nilIface]) (by simp [results, Tryz.results84, go_sem, d0, d1, d2, d3, d4, d5]) rfl ⟨rfl, _, FN, rfl, SF⟩
set_option maxHeartbeats 3200000 in
set_option maxRecDepth 100000 in
theorem put_ok {B : Nat} {W : World} {rb mb : Nat} {sv : Value} {s : CS} (h : Cl B W rb mb sv s) (n : Nat) (p : Pt) (hp : s.rows[n]? = some p) (q : Pt) (hf : q.fitB s.w = true) (ht : I64 q.t) :
  Calls Tryz.prog 82 #[.pointer (some ⟨rb, 0, none⟩), .int .i64 (n : Int), q.val s.comp] W fun e W' => e = .returned (.tuple #[p.val s.comp, .nilIface]) ∧ ∃ sv', Cl B W' rb mb sv' (s.turned n q) ∧ sv'.ownBlock = sv.ownBlock ∧ St (Ft rb mb sv) W W' := by
 have hnl : n < s.rows.length := (List.getElem?_eq_some_iff.1 hp).1
 have hsm := h.small
 obtain ⟨g, cap, cur, hsv, hBg, hg, hLc, hcm, hcs, hfl⟩ := h.cells (by omega)
 subst hsv
 have hw0 := h.ok.w0
 have hw4 := h.ok.w4
 have H := hid h
 have HF := hid hf
 have HT := hid ht
 have BA : Hid (Below W.heap.size W ((W.alloc (.cells (q.arr s.comp) 47)).alloc (.cells #[.int .i64 0, .int .i64 0, .int .i64 0, .int .i64 0, .int .i64 0, .int .i64 0] 47))) := (bAl _ _).alloc (by simp) _
 have RW := hid (row_some (h.later BA.out) n p hp)
 have HH0 : Hid (((W.alloc (.cells (q.arr s.comp) 47)).alloc (.cells #[.int .i64 0, .int .i64 0, .int .i64 0, .int .i64 0, .int .i64 0, .int .i64 0] 47)).heap[W.heap.size + 1]? = some (.cells (Pt.zero.arr 0) 47 (0, 0))) := by
  have := heap_alloc_new (W.alloc (.cells (q.arr s.comp) 47)) (.cells #[.int .i64 0, .int .i64 0, .int .i64 0, .int .i64 0, .int .i64 0, .int .i64 0] 47)
  rw [World.size_alloc] at this
  exact this
 have PP0 : Hid (((W.alloc (.cells (q.arr s.comp) 47)).alloc (.cells #[.int .i64 0, .int .i64 0, .int .i64 0, .int .i64 0, .int .i64 0, .int .i64 0] 47)).heap[W.heap.size]? = some (.cells (q.arr s.comp) 47 (0, 0))) := by
  show _ = _
  rw [Below.heap_alloc _ _ _ (by simp)]; exact heap_alloc_new W _
 have CK := hid (fun W' (hb : Below W.heap.size W W') => check_ok (h.later hb) q hf)
 have hgW : g < W.heap.size := (h.lt g (.inr (.inr rfl))).2
 have hrW : rb < W.heap.size := (h.lt rb (.inl rfl)).2
 have hmW : mb < W.heap.size := (h.lt mb (.inr (.inl rfl))).2
 have HG := hid hg
 have HFL := hid hfl
 have hzz : ((W.alloc (.cells (q.arr s.comp) 47)).alloc (.cells #[.int .i64 0, .int .i64 0, .int .i64 0, .int .i64 0, .int .i64 0, .int .i64 0] 47)).heap.size = W.heap.size + 2 := by simp
 clear h hp hg hfl hf ht
 unfold Pt.val at RW CK ⊢
 unfold Pt.arr at BA RW HH0 PP0 hzz
 have HZZ := hid hzz
 clear hzz
 go_enter Tryz.func82, Tryz.ntmps82
 go_wp2_with fail
 refine RW.out.mono ?_
 rintro e w1 ⟨rfl, hb⟩
 have hz1 : W.heap.size + 2 ≤ w1.heap.size := by have := hb.size; rw [HZZ.out] at this; omega
 have B1 := hid (BA.out.trans (hb.mono BA.out.size))
 have R1 := hid (blk_seen hb (Nat.le_refl _) HH0.out)
 have P1 := hid (blk_seen hb (Nat.le_refl _) PP0.out)
 obtain ⟨w2, hw2⟩ : ∃ w2, w2 = w1.alloc (.cells #[.int .i64 s.comp, .int .i64 p.a, .int .i64 p.b, .int .i64 p.c, .int .i64 p.d, .int .i64 p.t] 47) := ⟨_, rfl⟩
 have b12 : Below w1.heap.size w1 w2 := by rw [hw2]; exact bAl _ _
 have B2 := hid (B1.out.trans (b12.mono B1.out.size))
 have R2 := hid (blk_seen b12 (Nat.le_refl _) R1.out)
 have P2 := hid (blk_seen b12 (Nat.le_refl _) P1.out)
 have O2 : Hid (w2.heap[w1.heap.size]? = some (.cells (p.arr s.comp) 47 (0, 0))) := by rw [hw2]; exact heap_alloc_new w1 _
 have HW2 := hid hw2
 have k0 := cell_blk P1.out (j := 0) rfl
 have k1 := cell_blk P1.out (j := 1) rfl
 have k2 := cell_blk P1.out (j := 2) rfl
 have k3 := cell_blk P1.out (j := 3) rfl
 have k4 := cell_blk P1.out (j := 4) rfl
 have k5 := cell_blk P1.out (j := 5) rfl
 have hl := World.block_lt_of_cell? w1 _ k0
 have hne := World.new_ne w1 _ k0
 clear hb RW HH0 PP0 b12 hw2
 go_wp2_with fail
 rw [← HW2.out]
 refine (CK.out _ B2.out).mono ?_
 rintro e w3 ⟨rfl, hb3⟩
 have B3 := hid (B2.out.trans (hb3.mono B2.out.size))
 have R3 := hid (blk_seen hb3 (Nat.le_refl _) R2.out)
 have P3 := hid (blk_seen hb3 (Nat.le_refl _) P2.out)
 have O3 := hid (blk_seen hb3 (Nat.le_refl _) O2.out)
 have C3 := hid (H.out.later B3.out)
 have G3 := hid (blk_seen B3.out (Nat.le_refl _) HG.out)
 clear hb3 CK k0 k1 k2 k3 k4 k5 hl hne
 have hnw : n * s.w + s.w ≤ s.rows.length * s.w := by rw [← Nat.succ_mul]; exact Nat.mul_le_mul_right _ hnl
 have hL4 : s.rows.length * s.w ≤ 4000 := by have := Nat.mul_le_mul hsm hw4; omega
 have CR := hid (fun m => crow_any (W := w3.drewN m) (seen (drewN_below w3 m) (Nat.le_refl _) C3.out.c1) (seen (drewN_below w3 m) (Nat.le_refl _) C3.out.c2) (n := n) rfl hnw hLc hL4 hw0 hw4 (by omega))
 obtain ⟨cur', hcur'⟩ : ∃ cur', cur' = (cur.toList.take (n * s.w) ++ q.row s.w ++ cur.toList.drop (n * s.w + (q.row s.w).length)).toArray := ⟨_, rfl⟩
 have CP : ∀ m ty, (Builtin.copy_ #[113, 113] ty #[.slice (some ⟨g, n * s.w, none⟩) s.w (cap - n * s.w), .slice (some ⟨W.heap.size, 1, none⟩) 4 4]).run Tryz.prog (w3.drewN m) = .ok (.int .i64 (s.w : Int)) ((w3.drewN m).setRow g cur') := by
  intro m ty
  rw [hcur']
  have hh := run_copy_row (P := Tryz.prog) (w3.drewN m) 113 113 ty 3 g (n * s.w) s.w (cap - n * s.w) ⟨W.heap.size, 1, none⟩ 4 4 cur 3 (q.row s.w) Tryz.underlying113 infoInt G3.out (by rw [q.row_len hw4]; exact (Nat.min_eq_right hw4).symm) (row_src (W := w3.drewN m) P3.out s.w) (by rw [q.row_len hw4]; omega) (row_one _ _)
  rw [hh, q.row_len hw4]
  rfl
 have HCU := hid hcur'
 clear hcur'
 go_wp2_with fail
 go_region_held3 (fun _ => True) (exact trivial)
  ((go_at_call 120; refine (CR.out 1).mono ?_; rintro e w8 ⟨rfl, m, rfl⟩; rw [World.drewN_drewN]))
 obtain ⟨w4, hw4'⟩ : ∃ w4, w4 = (w3.drewN (1 + m)).setRow g cur' := ⟨_, rfl⟩
 rw [← hw4']
 have ngr : g ≠ rb := (C3.out.ne_f g rfl).1
 have ngm : g ≠ mb := (C3.out.ne_f g rfl).2
 have nrm : rb ≠ mb := C3.out.ne_rm
 have s34 : St (fun k => k = g) w3 w4 := by rw [hw4']; exact (drewN_st (fun k => k = g) w3 _).trans (setRow_st _ g _) fun _ _ q => q
 have G4 : Hid (w4.heap[g]? = some (.cells cur' 3 (0, 0))) := by rw [hw4']; exact setRow_heap (w3.drewN (1 + m)) g cur _ 3 _ G3.out
 have X4 := hid (s34.at C3.out.box (fun e => ngr e.symm))
 have R4 := hid (s34.at R3.out (by omega))
 have P4 := hid (s34.at P3.out (by omega))
 have O4 := hid (s34.at O3.out (by omega))
 obtain ⟨D, hD, hH⟩ := C3.out.map
 have hD4 := s34.map hD (fun e => ngm e.symm)
 have hIn : I64 (n : Int) := I64_mid (by omega) (by omega)
 obtain ⟨w5, hmu, hD5, ht5⟩ := hD4.drew.store keyed3 Tryz.underlying222 (by unfold maxLen; omega) (key_int (n : Int) hIn) (plainElem_int Tryz.underlying3 HT.out)
 have hH5 := hH.set (hD.tidy keyed3) hnl q hIn
 have s45 := map_st ht5
 have X5 := hid (s45.at X4.out nrm)
 have G5 := hid (s45.at G4.out ngm)
 have hz2 : w1.heap.size < w3.heap.size := (Array.getElem?_eq_some_iff.1 O3.out).1
 have R5 := hid (s45.at R4.out (by omega))
 have P5 := hid (s45.at P4.out (by omega))
 have O5 := hid (s45.at O4.out (by omega))
 have S35 : Hid (St (Ft rb mb (.slice (some ⟨g, 0, none⟩) (s.rows.length * s.w) cap)) w3 w5) := (St.trans (S := Ft rb mb (.slice (some ⟨g, 0, none⟩) (s.rows.length * s.w) cap)) ⟨s34.os, s34.tape, s34.output, s34.size, fun k hk hn => s34.block k hk fun e => hn (.inr (.inr (by rw [e]; rfl)))⟩ s45 fun _ _ q => .inr (.inl q))
 have HD5 := hid hD5
 have HH5 := hid hH5
 have K4 : Hid (w4.drew.cell? ⟨rb, 3, none⟩ = some (.map (some mb)) ∧ w4.drew.cell? ⟨W.heap.size, 5, none⟩ = some (.int .i64 q.t)) := ⟨cell_blk (W := w4) X4.out rfl, cell_blk (W := w4) P4.out rfl⟩
 have K5 : Hid (w5.cell? ⟨rb, 3, none⟩ = some (.map (some mb)) ∧ w5.cell? ⟨W.heap.size, 5, none⟩ = some (.int .i64 q.t)) := ⟨cell_blk X5.out rfl, cell_blk P5.out rfl⟩
 clear hD hH hD4 hD5 hH5 ht5 s34 s45 hw4' CR CP
 go_wp2_with fail
 go_region_held3 (fun W' => W'.cell? ⟨rb, 3, none⟩ = some (.map (some mb)) ∧ W'.cell? ⟨W.heap.size, 5, none⟩ = some (.int .i64 q.t)) (first | exact K4.out | exact K5.out) (fail)
 clear hmu K4 K5
 obtain ⟨d0, d1, d2, d3, d4, d5, -, -, -, -, -, -⟩ := lies O5.out
 obtain ⟨x0, x1, x2, x3, x4, x5, f0, f1, f2, f3, f4, f5⟩ := lies R5.out
 go_wp2_with fail
 have PB := put6_blk R5.out rfl s.comp p
 have PS := put6_st w5 (W.heap.size + 1) s.comp p
 unfold put6 at PB PS
 obtain ⟨d0, d1, d2, d3, d4, d5, -, -, -, -, -, -⟩ := lies PB
 generalize (((((w5.setCell ⟨W.heap.size + 1, 0, none⟩ (.int .i64 s.comp)).setCell ⟨W.heap.size + 1, 1, none⟩ (.int .i64 p.a)).setCell ⟨W.heap.size + 1, 2, none⟩ (.int .i64 p.b)).setCell ⟨W.heap.size + 1, 3, none⟩ (.int .i64 p.c)).setCell ⟨W.heap.size + 1, 4, none⟩ (.int .i64 p.d)).setCell ⟨W.heap.size + 1, 5, none⟩ (.int .i64 p.t) = w8 at *
 have X8 := PS.at X5.out (by omega)
 have G8 := PS.at G5.out (by omega)
 have D8 := PS.map HD5.out (by omega)
 have FN := H.out.written n q HF.out HT.out hLc hcm (by rw [HCU.out]; simp [q.row_len hw4]; omega) (by
  rw [HCU.out, List.toList_toArray, q.row_len hw4]
  exact splice_take hw4 HFL.out (by simp; omega) hnl q) hBg X8 G8 _ D8 HH5.out
 have SF : St (Ft rb mb (.slice (some ⟨g, 0, none⟩) (s.rows.length * s.w) cap)) W w8 := ((St.of_below B3.out).trans S35.out fun _ _ q => q).trans PS fun k hk q => by omega
 exact bodyPost_ret (v := .tuple #[.agg #[.int .i64 s.comp, .int .i64 p.a, .int .i64 p.b, .int .i64 p.c, .int .i64 p.d, .int .i64 p.t], .nilIface]) (by simp [results, Tryz.results82, go_sem, d0, d1, d2, d3, d4, d5]) rfl ⟨rfl, _, FN, rfl, SF⟩
def Col (B : Nat) (W : World) (rb : Nat) (s : CS) (S : Nat → Prop) : Prop := ∃ mb sv, Cl B W rb mb sv s ∧ ∀ k, S k ↔ Ft rb mb sv k
section
variable {B : Nat} {W W' : World} {rb : Nat} {s : CS} {S : Nat → Prop}
theorem Col.kept {T : Nat → Prop} (h : Col B W rb s S) (hs : St T W W') (hd : ∀ k, S k → ¬ T k) : Col B W' rb s S := by
 obtain ⟨mb, sv, h1, h2⟩ := h
 exact ⟨mb, sv, h1.kept hs fun k hk => hd k ((h2 k).2 hk), h2⟩
theorem Col.later (h : Col B W rb s S) (hb : Below W.heap.size W W') : Col B W' rb s S := h.kept (T := fun _ => False) (St.of_below hb) fun _ _ q => q
theorem Col.lt (h : Col B W rb s S) (k : Nat) (hk : S k) : B ≤ k ∧ k < W.heap.size := by
 obtain ⟨mb, sv, h1, h2⟩ := h
 exact h1.lt k ((h2 k).1 hk)
theorem col_new (W : World) (c : Int) (w : Nat) (h0 : 0 ≤ c) (h1 : c ≤ 15) (hw0 : 1 ≤ w) (hw : w ≤ 4) :
  Calls Tryz.prog 138 #[.int .i64 c, .int .i64 (w : Int)] W fun e W' => ∃ rb S, e = .returned (.tuple #[.pointer (some ⟨rb, 0, none⟩), .nilIface]) ∧ Col W.heap.size W' rb ⟨c, w, []⟩ S ∧ Below W.heap.size W W' := by
 refine (new_some W c w h0 h1 hw0 hw).mono ?_
 rintro e w1 ⟨rfl, h, hb⟩
 exact ⟨_, _, rfl, ⟨_, _, h, fun _ => Iff.rfl⟩, hb⟩
theorem col_push (h : Col B W rb s S) (p : Pt) (hf : p.fitB s.w = true) (ht : I64 p.t) (hsm : s.rows.length < 1000) :
  Calls Tryz.prog 139 #[.pointer (some ⟨rb, 0, none⟩), p.val s.comp] W fun e W' => e = .returned (.tuple #[.int .i64 (s.rows.length : Int), .nilIface]) ∧ ∃ S', Col B W' rb ⟨s.comp, s.w, s.rows ++ [p]⟩ S' ∧ St S W W' ∧ ∀ x, S' x → S x ∨ W.heap.size ≤ x := by
 obtain ⟨mb, sv, h1, h2⟩ := h
 refine (push_ok h1 p hf ht hsm).mono ?_
 rintro e w ⟨rfl, sv', h3, h4, h5⟩
 refine ⟨rfl, _, ⟨mb, sv', h3, fun _ => Iff.rfl⟩, ⟨h5.os, h5.tape, h5.output, h5.size, fun k hk hn => h5.block k hk fun q => hn ((h2 k).2 q)⟩, fun x hx => ?_⟩
 rcases hx with hx | hx | hx
 ·exact .inl ((h2 x).2 (.inl hx))
 ·exact .inl ((h2 x).2 (.inr (.inl hx)))
 ·rcases h4 with h4 | ⟨y, h4, h6⟩
  ·exact .inl ((h2 x).2 (.inr (.inr (h4 ▸ hx))))
  ·rw [h4] at hx; simp at hx; exact .inr (by omega)
theorem col_row (h : Col B W rb s S) (n : Nat) (p : Pt) (hp : s.rows[n]? = some p) :
  Calls Tryz.prog 94 #[.pointer (some ⟨rb, 0, none⟩), .int .i64 (n : Int)] W fun e W' => e = .returned (.tuple #[p.val s.comp, .nilIface]) ∧ Below W.heap.size W W' := by
 obtain ⟨mb, sv, h1, h2⟩ := h
 exact row_some h1 n p hp
theorem col_take (h : Col B W rb s S) (n : Nat) (p : Pt) (hp : s.rows[n]? = some p) (pl : Pt) (hpl : s.rows[s.rows.length - 1]? = some pl) :
  Calls Tryz.prog 141 #[.pointer (some ⟨rb, 0, none⟩), .int .i64 (n : Int)] W fun e W' => e = .returned (.tuple #[p.val s.comp, .nilIface]) ∧ Col B W' rb (s.taken n pl) S ∧ St S W W' := by
 obtain ⟨mb, sv, h1, h2⟩ := h
 refine (take_ok h1 n p hp pl hpl).mono ?_
 rintro e w ⟨rfl, sv', h3, h4, h5⟩
 refine ⟨rfl, ⟨mb, sv', h3, fun k => ?_⟩, ⟨h5.os, h5.tape, h5.output, h5.size, fun k hk hn => h5.block k hk fun q => hn ((h2 k).2 q)⟩⟩
 rw [h2 k]
 unfold Ft
 rw [h4]
theorem col_since (h : Col B W rb s S) (f : Int) : Calls Tryz.prog 89 #[.pointer (some ⟨rb, 0, none⟩), .int .i64 f] W fun e W' => ∃ v, e = .returned v ∧ Ints W.heap.size W' v (since s.rows f s.rows.length) ∧ Below W.heap.size W W' := by
 obtain ⟨mb, sv, h1, h2⟩ := h
 exact since_any h1 f
end
theorem Env3.same {w : World} {Ad : Nat → Addr} (h : Env3 w Ad) {p k : Nat} (hp : p ∈ three) (hk : k ∈ three) : decide (Ad p = Ad k) = decide (p = k) := by
 by_cases e : p = k
 ·subst e; simp
 ·have : Ad p ≠ Ad k := fun h' => e (h.inj p hp k hk h')
  simp [e, this]
theorem is_err (Ad : Nat → Addr) {W : World} {v : Value} {p k d : Nat} (hE : Env3 W Ad) (h : Err Ad W v p d) (hp : p ∈ three) (hk : k ∈ three) :
  Calls Tryz.prog 13 #[v, .iface 278 (.pointer (some (Ad k)))] W fun e W' => e = .returned (.bool (decide (p = k))) ∧ Below W.heap.size W W' := by
 obtain ⟨ws, h⟩ := h
 obtain ⟨t, q, rfl, -⟩ := h.1.shape
 refine is_by Ad k t q _ W ((eis_gen Ad W.heap.size k W ws _ p (hE.sen p hp) (hE.sen k hk) (hE.same hp hk) h.1).mono ?_)
 rintro e w' ⟨rfl, rfl⟩
 exact ⟨rfl, Below.refl _ _⟩
section
variable {B : Nat} {W : World} {rb : Nat} {s : CS} {S : Nat → Prop}
theorem col_set (h : Col B W rb s S) (n : Nat) (p : Pt) (hp : s.rows[n]? = some p) (j : Nat) (hj : j < s.w) (value frame : Int) (hfr : I64 frame) :
  Calls Tryz.prog 84 #[.pointer (some ⟨rb, 0, none⟩), .int .i64 (n : Int), .int .i64 (j : Int), .int .i64 value, .int .i64 frame] W fun e W' => e = .returned (.tuple #[p.val s.comp, .nilIface]) ∧ Col B W' rb (s.turned n (p.put j value frame)) S ∧ St S W W' := by
 obtain ⟨mb, sv, h1, h2⟩ := h
 refine (set_ok h1 n p hp j hj value frame hfr).mono ?_
 rintro e w ⟨rfl, sv', h3, h4, h5⟩
 refine ⟨rfl, ⟨mb, sv', h3, fun k => ?_⟩, ⟨h5.os, h5.tape, h5.output, h5.size, fun k hk hn => h5.block k hk fun q => hn ((h2 k).2 q)⟩⟩
 rw [h2 k]
 unfold Ft
 rw [h4]
theorem col_setcell (Ad : Nat → Addr) (h : Col B W rb s S) (hE : Env3 W Ad) (n : Nat) (p : Pt) (hp : s.rows[n]? = some p) (cell value frame : Int) (hc : cell < 0 ∨ (s.w : Int) ≤ cell) :
  Calls Tryz.prog 84 #[.pointer (some ⟨rb, 0, none⟩), .int .i64 (n : Int), .int .i64 cell, .int .i64 value, .int .i64 frame] W fun e W' => ∃ t q, e = .returned (.tuple #[.agg #[.int .i64 0, .int .i64 0, .int .i64 0, .int .i64 0, .int .i64 0, .int .i64 0], .iface t q]) ∧ Err Ad W' (.iface t q) 1 2 ∧ Below W.heap.size W W' := by
 obtain ⟨mb, sv, h1, h2⟩ := h
 exact set_cell Ad h1 hE n p hp cell value frame hc
theorem col_put (h : Col B W rb s S) (n : Nat) (p : Pt) (hp : s.rows[n]? = some p) (q : Pt) (hf : q.fitB s.w = true) (ht : I64 q.t) :
  Calls Tryz.prog 82 #[.pointer (some ⟨rb, 0, none⟩), .int .i64 (n : Int), q.val s.comp] W fun e W' => e = .returned (.tuple #[p.val s.comp, .nilIface]) ∧ Col B W' rb (s.turned n q) S ∧ St S W W' := by
 obtain ⟨mb, sv, h1, h2⟩ := h
 refine (put_ok h1 n p hp q hf ht).mono ?_
 rintro e w ⟨rfl, sv', h3, h4, h5⟩
 refine ⟨rfl, ⟨mb, sv', h3, fun k => ?_⟩, ⟨h5.os, h5.tape, h5.output, h5.size, fun k hk hn => h5.block k hk fun q => hn ((h2 k).2 q)⟩⟩
 rw [h2 k]
 unfold Ft
 rw [h4]
end
end Co
namespace So
open Go.RowKit Go.Shelf Go.Maps
open Go.WideElems (rg)
open Co (I64 keyed3 key_int I64_mid isKeyI key_ne)
open At (St few_of)
def ptrV : Option Nat → Value
 | none => .pointer none
 | some b => .pointer (some ⟨b, 0, none⟩)
def ptrD : Option Nat → DataW Unit
 | none => .nil
 | some b => .lit (.int .i64 (b : Int))
def ptrElem : Value → Option (DataW Unit × List MemPlace)
 | .pointer none => some (.nil, [])
 | .pointer (some a) => if a.off = 0 ∧ a.spot = none then some (.lit (.int .i64 (a.block : Int)), []) else none
 | _ => none
theorem ptrElem_mk (x : Option Nat) : ptrElem (ptrV x) = some (ptrD x, []) := by
 cases x <;> simp [ptrElem, ptrV, ptrD]
theorem ptrElem_inv {v : Value} {y : DataW Unit × List MemPlace} (h : ptrElem v = some y) : ∃ x, v = ptrV x ∧ y = (ptrD x, []) := by
 unfold ptrElem at h
 split at h
 ·cases h; exact ⟨none, rfl, rfl⟩
 ·rename_i a
  split at h
  ·rename_i hc
   obtain ⟨b, o, q⟩ := a
   obtain ⟨rfl, rfl⟩ := hc
   cases h
   exact ⟨some b, rfl, rfl⟩
  ·cases h
 ·cases h
theorem ptrD_inj {x y : Option Nat} (h : ptrD x = ptrD y) : x = y := by
 cases x <;> cases y <;> simp [ptrD] at h ⊢
 omega
def lk (g : Nat → Option Nat) (i : Int) : Option Nat := if 0 ≤ i then g i.toNat else none
theorem lk_nat (g : Nat → Option Nat) (n : Nat) : lk g (n : Int) = g n := by simp [lk]
def PHolds (D : DataW Unit) (g : Nat → Option Nat) : Prop := ∀ i, I64 i → Maps.has D (.int .i64 i) = (lk g i).isSome ∧ D.atKey (.int .i64 i) .nil = ptrD (lk g i)
def gput (g : Nat → Option Nat) (n : Nat) (x : Option Nat) : Nat → Option Nat := fun m => if m = n then x else g m
theorem lk_gput (g : Nat → Option Nat) (n : Nat) (x : Option Nat) (i : Int) : lk (gput g n x) i = if i = (n : Int) then x else lk g i := by
 unfold lk gput
 by_cases h0 : 0 ≤ i
 ·rw [if_pos h0, if_pos h0]
  by_cases e : i = (n : Int)
  ·subst e; simp
  ·rw [if_neg e, if_neg (by omega)]
 ·rw [if_neg h0, if_neg h0, if_neg (by omega)]
theorem PHolds.put {D : DataW Unit} {g : Nat → Option Nat} (hD : Tidy D) (h : PHolds D g) (n b : Nat) : PHolds (D.put (.int .i64 (n : Int)) (ptrD (some b))) (gput g n (some b)) := by
 intro i hi
 rw [lk_gput]
 by_cases e : i = (n : Int)
 ·subst e
  rw [if_pos rfl]
  exact ⟨Maps.has_put_same hD.isMap (isKeyI _) _, Maps.atKey_put_same hD.isMap (isKeyI _) _ _⟩
 ·rw [if_neg e, Maps.has_put_other (key_ne e), Maps.atKey_put_other (key_ne e)]
  exact h i hi
theorem PHolds.del {D : DataW Unit} {g : Nat → Option Nat} (h : PHolds D g) (n : Nat) : PHolds (D.del (.int .i64 (n : Int))) (gput g n none) := by
 intro i hi
 rw [lk_gput]
 by_cases e : i = (n : Int)
 ·subst e
  rw [if_pos rfl]
  exact ⟨Maps.has_del_same, Maps.atKey_del_same _⟩
 ·rw [if_neg e, Maps.has_del_other (key_ne e), Maps.atKey_del_other (key_ne e)]
  exact h i hi
def PMap (W : World) (mb : Nat) (g : Nat → Option Nat) : Prop := ∃ D, W.ownsMap Tryz.prog 3 ptrElem mb (Maps.size D) D ∧ PHolds D g
theorem own_size {W : World} {mb n : Nat} {D : DataW Unit} (h : W.ownsMap Tryz.prog 3 ptrElem mb n D) : W.ownsMap Tryz.prog 3 ptrElem mb (Maps.size D) D := by
 obtain ⟨es, clock, hb, F, _, rfl⟩ := h
 exact ⟨es, clock, hb, F, by simp [Maps.size, length_sorted], rfl⟩
def natOf : Lit → Nat
 | .int _ x => x.toNat
 | _ => 0
theorem psize {W : World} {mb n N : Nat} {D : DataW Unit} {g : Nat → Option Nat} (h : W.ownsMap Tryz.prog 3 ptrElem mb n D) (hH : PHolds D g) (hN : ∀ m b, g m = some b → m < N) : Maps.size D ≤ N := by
 obtain ⟨es, clock, hb, F, _, rfl⟩ := h
 have hk := Maps.fit_keys F
 have hap := Maps.fit_apart keyed3 F
 have e1 : Maps.size (DataW.map ((es.toList.map (rg Tryz.prog 3 ptrElem)).foldr DataW.insert [])) = (es.toList.map (rg Tryz.prog 3 ptrElem)).length := by simp [Maps.size, length_sorted]
 have hm : ∀ p ∈ es.toList.map (rg Tryz.prog 3 ptrElem), ∃ m b, p.1 = .int .i64 ((m : Nat) : Int) ∧ g m = some b := by
  intro p hp
  obtain ⟨v, hv⟩ := hk p hp
  obtain ⟨x, _, e, hw⟩ := Maps.keyOf_int_inv Tryz.underlying3 hv
  have h1 := (hH x hw).1
  have h2 : Maps.has (DataW.map ((es.toList.map (rg Tryz.prog 3 ptrElem)).foldr DataW.insert [])) (.int .i64 x) = true := by
   rw [Maps.has_eq, List.any_eq_true]
   exact ⟨p, Go.mem_sorted.2 hp, by rw [e]; simp [Lit.sameKey]⟩
  rw [h2] at h1
  obtain ⟨b, hb⟩ := Option.isSome_iff_exists.1 h1.symm
  unfold lk at hb
  split at hb
  ·rename_i h0
   exact ⟨x.toNat, b, by rw [e, Int.toNat_of_nonneg h0], hb⟩
  ·cases hb
 rw [e1]
 generalize es.toList.map (rg Tryz.prog 3 ptrElem) = L at hap hm
 have hnd : (L.map fun p => natOf p.1).Nodup := by
  rw [List.Nodup, List.pairwise_map]
  refine List.Pairwise.imp_of_mem ?_ hap
  intro p q hp hq hne e
  obtain ⟨m, b, e1, _⟩ := hm p hp
  obtain ⟨m', b', e2, _⟩ := hm q hq
  rw [e1, e2] at hne e
  simp [natOf] at e
  exact hne (by rw [e])
 have := few_of (N := N) hnd fun x hx => by
  obtain ⟨p, hp, rfl⟩ := List.mem_map.1 hx
  obtain ⟨m, b, e1, e2⟩ := hm p hp
  rw [e1]
  simpa [natOf] using hN m b e2
 simpa using this
section
variable {W W' : World} {mb : Nat} {g : Nat → Option Nat} {t e : TypeId}
theorem PMap.lt (h : PMap W mb g) : mb < W.heap.size := by obtain ⟨D, h1, -⟩ := h; exact h1.lt
theorem PMap.kept {T : Nat → Prop} (h : PMap W mb g) (hs : St T W W') (hn : ¬ T mb) : PMap W' mb g := by
 obtain ⟨D, ⟨es, cl, hb, q⟩, h2⟩ := h
 exact ⟨D, ⟨es, cl, hs.at hb hn, q⟩, h2⟩
theorem PMap.obj (h : PMap W mb g) : ∃ es cl, W.heap[mb]? = some (.map es cl) := by
 obtain ⟨D, ⟨es, cl, hb, q⟩, h2⟩ := h
 exact ⟨es, cl, hb⟩
theorem PMap.cells_ne (h : PMap W mb g) {k : Nat} {c : Array Value} {ty : TypeId} {fr : Nat × Nat} (hk : W.heap[k]? = some (.cells c ty fr)) : k ≠ mb := fun q => by
 obtain ⟨es, cl, hb⟩ := h.obj
 rw [q, hb] at hk
 cases hk
theorem pmap_made (W : World) : PMap (W.alloc (.map #[] 0)) W.heap.size (fun _ => none) := by
 refine ⟨.map [], World.ownsMap_made W Tryz.prog 3 ptrElem, fun i _ => ?_⟩
 have e : lk (fun _ => none) i = none := by unfold lk; split <;> rfl
 rw [e]
 exact ⟨rfl, rfl⟩
theorem PMap.look_ok (h : PMap W mb g) (ht : Tryz.prog.underlying t = some (.map 3 e)) (hz : (zeroValue e).run Tryz.prog W = .ok (.pointer none) W) (i : Int) (hi : I64 i) :
  (Instr.lookup t (.map (some mb)) (.int .i64 i) true).run Tryz.prog W = .ok (.tuple #[ptrV (lk g i), .bool (lk g i).isSome]) W := by
 obtain ⟨D, h1, hH⟩ := h
 obtain ⟨v, ps, hr, hv⟩ := h1.look_ok keyed3 ht hz (ptrElem_mk none) (key_int i hi)
 obtain ⟨x, rfl, e2⟩ := ptrElem_inv hv
 rw [show ptrD none = (.nil : DataW Unit) from rfl, (hH i hi).2] at e2
 simp only [Prod.mk.injEq] at e2
 rw [hr, (hH i hi).1, ← ptrD_inj e2.1]
theorem PMap.look (h : PMap W mb g) (ht : Tryz.prog.underlying t = some (.map 3 e)) (hz : (zeroValue e).run Tryz.prog W = .ok (.pointer none) W) (i : Int) (hi : I64 i) :
  (Instr.lookup t (.map (some mb)) (.int .i64 i) false).run Tryz.prog W = .ok (ptrV (lk g i)) W := by
 obtain ⟨D, h1, hH⟩ := h
 obtain ⟨v, ps, hr, hv⟩ := h1.lookup keyed3 ht hz (ptrElem_mk none) (key_int i hi)
 obtain ⟨x, rfl, e2⟩ := ptrElem_inv hv
 rw [show ptrD none = (.nil : DataW Unit) from rfl, (hH i hi).2] at e2
 simp only [Prod.mk.injEq] at e2
 rw [hr, ← ptrD_inj e2.1]
theorem turned_st (h : W.mapTurned W' mb) : St (fun k => k = mb) W W' := St.of_grown h.grown fun k e => by simpa using e.symm
theorem PMap.store (h : PMap W mb g) (ht : Tryz.prog.underlying t = some (.map 3 e)) (hN : ∀ m b, g m = some b → m < 70000) (n b : Nat) (hn : n ≤ 100000) :
  ∃ w', (Instr.mapUpdate t (.map (some mb)) (.int .i64 (n : Int)) (.pointer (some ⟨b, 0, none⟩))).run Tryz.prog W = .ok () w' ∧ PMap w' mb (gput g n (some b)) ∧ St (fun k => k = mb) W w' := by
 obtain ⟨D, h1, hH⟩ := h
 have hs := psize h1 hH hN
 obtain ⟨w', hr, h2, h3⟩ := h1.store keyed3 ht (by unfold maxLen; omega) (key_int (n : Int) (I64_mid (by omega) (by omega))) (ptrElem_mk (some b))
 exact ⟨w', hr, ⟨_, own_size h2, hH.put (h1.tidy keyed3) n b⟩, turned_st h3⟩
theorem PMap.drop (h : PMap W mb g) (ht : Tryz.prog.underlying t = some (.map 3 e)) (n : Nat) (hn : n ≤ 100000) (ty : TypeId) :
  ∃ w', (Builtin.delete_ #[t, 3] ty #[.map (some mb), .int .i64 (n : Int)]).run Tryz.prog W = .ok (.tuple #[]) w' ∧ PMap w' mb (gput g n none) ∧ St (fun k => k = mb) W w' := by
 obtain ⟨D, h1, hH⟩ := h
 obtain ⟨w', hr, h2, h3⟩ := h1.drop keyed3 ht (key_int (n : Int) (I64_mid (by omega) (by omega))) ty
 exact ⟨w', hr, ⟨_, own_size h2, hH.del n⟩, turned_st h3⟩
end
end So
namespace So
open Go.RowKit Go.Shelf Go.Maps
open Co (Pt)
open At (lst lst_mem)
open Rs (Prt okL mskP)
theorem ext_key {α : Type} (key : α → Nat) : ∀ {l m : List α}, l.Pairwise (fun x y => key x < key y) → m.Pairwise (fun x y => key x < key y) → (∀ x, x ∈ l ↔ x ∈ m) → l = m := by
 intro l
 induction l with
 | nil =>
  intro m _ _ h
  cases m with
  | nil => rfl
  | cons b t => exact absurd ((h b).2 (by simp)) (by simp)
 | cons a l ih =>
  intro m hl hm h
  cases m with
  | nil => exact absurd ((h a).1 (by simp)) (by simp)
  | cons b t =>
   rw [List.pairwise_cons] at hl hm
   have e : a = b := by
    rcases List.mem_cons.1 ((h a).1 (by simp)) with q | q
    ·exact q
    ·rcases List.mem_cons.1 ((h b).2 (by simp)) with q' | q'
     ·exact q'.symm
     ·have := hm.1 a q
      have := hl.1 b q'
      omega
   subst e
   rw [ih hl.2 hm.2 fun x => ?_]
   constructor
   ·intro hx
    rcases List.mem_cons.1 ((h x).1 (by simp [hx])) with q | q
    ·subst q; have := hl.1 x hx; omega
    ·exact q
   ·intro hx
    rcases List.mem_cons.1 ((h x).2 (by simp [hx])) with q | q
    ·subst q; have := hm.1 x hx; omega
    ·exact q
theorem lst_sorted (m : Nat) : ∀ k, (lst k m).Pairwise (· < ·)
 | 0 => by simp [lst]
 | k + 1 => by
  have ih := lst_sorted m k
  unfold lst
  split
  ·rw [List.pairwise_append]
   refine ⟨ih, by simp, fun a ha b hb => ?_⟩
   have := ((lst_mem m a k).1 ha).1
   simp at hb
   omega
  ·exact ih
def pt (p : Prt) : Pt := ⟨p.v0, p.v1, p.v2, p.v3, p.t⟩
def mk (c : Nat) (q : Pt) : Prt := ⟨(c : Int), q.a, q.b, q.c, q.d, q.t⟩
theorem mk_val (c : Nat) (q : Pt) : (mk c q).val = q.val (c : Int) := rfl
theorem pt_val (p : Prt) : p.val = (pt p).val p.c := rfl
theorem mk_pt {p : Prt} {c : Nat} (h : p.c = (c : Int)) : mk c (pt p) = p := by
 cases p; simp at h; subst h; rfl
def ptAt (l : List Prt) (c : Nat) : Pt := match l.find? (fun x => x.c == (c : Int)) with
 | some p => pt p
 | none => Pt.zero
def Apart (l : List Prt) : Prop := l.Pairwise (fun x y => x.c ≠ y.c)
theorem okL_apart {ws : List Nat} {l : List Prt} (h : okL ws l) : Apart l := h.1.imp fun q e => by omega
theorem find_apart {l : List Prt} (h : Apart l) {p : Prt} (hp : p ∈ l) : l.find? (fun x => x.c == p.c) = some p := by
 induction l with
 | nil => simp at hp
 | cons a l ih =>
  rw [Apart, List.pairwise_cons] at h
  rcases List.mem_cons.1 hp with rfl | hp'
  ·simp
  ·have := h.1 p hp'
   rw [List.find?_cons_of_neg (by simpa using this)]
   exact ih h.2 hp'
theorem ptAt_mem {l : List Prt} (h : Apart l) {p : Prt} (hp : p ∈ l) {c : Nat} (hc : p.c = (c : Int)) : ptAt l c = pt p := by
 unfold ptAt
 rw [← hc, find_apart h hp]
theorem apart_perm {l l' : List Prt} (h : Apart l) (hp : l.Perm l') : Apart l' := (hp.pairwise_iff (fun q => Ne.symm q)).1 h
theorem find_none {l : List Prt} {c : Int} (h : ∀ x ∈ l, x.c ≠ c) : l.find? (fun x => x.c == c) = none := by
 rw [List.find?_eq_none]
 intro x hx
 simpa using h x hx
theorem ptAt_perm {l l' : List Prt} (h : Apart l) (hp : l.Perm l') (c : Nat) : ptAt l c = ptAt l' c := by
 by_cases e : ∃ x ∈ l, x.c = (c : Int)
 ·obtain ⟨x, hx, hc⟩ := e
  rw [ptAt_mem h hx hc, ptAt_mem (apart_perm h hp) (hp.mem_iff.1 hx) hc]
 ·unfold ptAt
  rw [find_none fun x hx q => e ⟨x, hx, q⟩, find_none fun x hx q => e ⟨x, hp.mem_iff.2 hx, q⟩]
def Pos (l : List Prt) : Prop := ∀ x ∈ l, 0 ≤ x.c
theorem fold_bit (c : Nat) : ∀ (l : List Prt) (m : Nat), (l.foldl (fun m x => m ||| 2 ^ x.c.toNat) m).testBit c = (m.testBit c || l.any fun x => x.c.toNat == c) := by
 intro l
 induction l with
 | nil => intro m; simp
 | cons a l ih =>
  intro m
  rw [List.foldl_cons, ih, Nat.testBit_or, Nat.testBit_two_pow, List.any_cons, Bool.or_assoc]
  congr 2
theorem msk_bit (l : List Prt) (c : Nat) : (mskP l).testBit c = l.any fun x => x.c.toNat == c := by
 unfold mskP
 rw [fold_bit]
 simp
theorem msk_mem {l : List Prt} (h : Pos l) (c : Nat) : (mskP l).testBit c = true ↔ ∃ x ∈ l, x.c = (c : Int) := by
 rw [msk_bit, List.any_eq_true]
 constructor
 ·rintro ⟨x, hx, e⟩
  have := h x hx
  exact ⟨x, hx, by simp at e; omega⟩
 ·rintro ⟨x, hx, e⟩
  exact ⟨x, hx, by simp; omega⟩
theorem eq_bits {a b : Nat} (h : ∀ i, a.testBit i = b.testBit i) : a = b := Nat.eq_of_testBit_eq h
theorem msk_perm {l l' : List Prt} (hp : l.Perm l') : mskP l = mskP l' := by
 apply eq_bits
 intro i
 rw [msk_bit, msk_bit, Bool.eq_iff_iff, List.any_eq_true, List.any_eq_true]
 constructor
 ·rintro ⟨x, hx, e⟩; exact ⟨x, hp.mem_iff.1 hx, e⟩
 ·rintro ⟨x, hx, e⟩; exact ⟨x, hp.mem_iff.2 hx, e⟩
theorem okL_pos {ws : List Nat} {l : List Prt} (h : okL ws l) : Pos l := fun x hx => (h.2 x hx).1
theorem msk_lt {ws : List Nat} {l : List Prt} (h : ∀ x ∈ l, 0 ≤ x.c ∧ x.c < (ws.length : Int)) : mskP l < 2 ^ ws.length := by
 apply At.lt_of_bits
 intro i hi
 rw [Bool.eq_false_iff]
 intro q
 obtain ⟨x, hx, e⟩ := (msk_mem (fun x hx => (h x hx).1) i).1 q
 have := (h x hx).2
 omega
theorem parts_back {ws : List Nat} {l : List Prt} (h : okL ws l) (hw : ws.length ≤ 16) : (lst 32 (mskP l)).map (fun c => mk c (ptAt l c)) = l := by
 refine ext_key (fun x => x.c.toNat) ?_ ?_ ?_
 ·rw [List.pairwise_map]
  exact (lst_sorted _ 32).imp fun q => by simpa [mk] using q
 ·refine List.Pairwise.imp_of_mem ?_ h.1
  intro a b ha hb q
  have := (h.2 a ha).1
  omega
 ·intro x
  rw [List.mem_map]
  constructor
  ·rintro ⟨c, hc, rfl⟩
   obtain ⟨y, hy, e⟩ := (msk_mem (okL_pos h) c).1 ((lst_mem _ _ _).1 hc).2
   rw [ptAt_mem (okL_apart h) hy e, mk_pt e]
   exact hy
  ·intro hx
   have h1 := h.2 x hx
   refine ⟨x.c.toNat, (lst_mem _ _ _).2 ⟨by omega, (msk_mem (okL_pos h) _).2 ⟨x, hx, by omega⟩⟩, ?_⟩
   rw [ptAt_mem (okL_apart h) hx (by omega), mk_pt (by omega)]
end So
namespace So
open Go.RowKit Go.Shelf Go.Maps
open Co (I64)
open At (add)
open Ro (RS)
open Rs (Prt SD okL fitP mskP)
def al (s : SD) (i g : Nat) : Prop := s.r.aliveB (i : Int) (g : Int) = true
theorem al_iff (s : SD) (i g : Nat) : al s i g ↔ i ∉ s.r.free ∧ s.r.gens[i]? = some g := by
 unfold al
 rw [RS.aliveB_iff]
 simp
theorem al_gen {s : SD} {i g g' : Nat} (h : al s i g) (h' : al s i g') : g = g' := by
 rw [al_iff] at h h'
 have := h.2.symm.trans h'.2
 simpa using this
theorem al_lt {s : SD} {i g : Nat} (h : al s i g) : i < s.r.gens.length := by
 rw [al_iff] at h
 exact (List.getElem?_eq_some_iff.1 h.2).1
def okE (ws : List Nat) (l : List Prt) : Prop := okL ws l ∧ ∀ p ∈ l, fitP ws p = true ∧ I64 p.t
structure Lk (ex : Option Nat) (tab : Nat → Option (List (Nat × Nat))) (seat : List (Nat × Nat)) (s : SD) : Prop where
 len : seat.length = s.r.gens.length
 here : ∀ i g, al s i g → ex ≠ some i → ∃ n j own, seat[i]? = some (n, j) ∧ tab n = some own ∧ own[j]? = some (i, g) ∧ s.sets[n]? = some (mskP (s.at i))
 back : ∀ n own, tab n = some own → own ≠ [] ∧ ∀ j i g, own[j]? = some (i, g) → al s i g ∧ ex ≠ some i ∧ seat[i]? = some (n, j) ∧ s.sets[n]? = some (mskP (s.at i))
 ok : ∀ i g, al s i g → ex ≠ some i → okE s.ws (s.at i)
def tput (tab : Nat → Option (List (Nat × Nat))) (n : Nat) (x : Option (List (Nat × Nat))) : Nat → Option (List (Nat × Nat)) := fun m => if m = n then x else tab m
theorem tput_same (tab : Nat → Option (List (Nat × Nat))) (n : Nat) (x : Option (List (Nat × Nat))) : tput tab n x n = x := by simp [tput]
theorem tput_ne (tab : Nat → Option (List (Nat × Nat))) {n m : Nat} (h : m ≠ n) (x : Option (List (Nat × Nat))) : tput tab n x m = tab m := by simp [tput, h]
section
variable {ex : Option Nat} {tab : Nat → Option (List (Nat × Nat))} {seat : List (Nat × Nat)} {s : SD}
theorem Lk.one (h : Lk ex tab seat s) {n n' : Nat} {own own' : List (Nat × Nat)} (h1 : tab n = some own) (h2 : tab n' = some own') {j j' i g g' : Nat} (e1 : own[j]? = some (i, g)) (e2 : own'[j']? = some (i, g')) : n = n' ∧ j = j' := by
 have a := ((h.back n own h1).2 j i g e1).2.2.1
 have b := ((h.back n' own' h2).2 j' i g' e2).2.2.1
 rw [a] at b
 simpa using b
def taken (own : List (Nat × Nat)) (j : Nat) (x : Nat × Nat) : List (Nat × Nat) := (own.set j x).dropLast
theorem taken_len (own : List (Nat × Nat)) (j : Nat) (x : Nat × Nat) : (taken own j x).length = own.length - 1 := by simp [taken]
theorem taken_at {own : List (Nat × Nat)} {j : Nat} {x : Nat × Nat} {k : Nat} {y : Nat × Nat} (h : (taken own j x)[k]? = some y) : k < own.length - 1 ∧ ((k = j ∧ y = x ∧ j < own.length - 1) ∨ (k ≠ j ∧ own[k]? = some y)) := by
 unfold taken at h
 have hk := (List.getElem?_eq_some_iff.1 h).1
 simp at hk
 rw [List.getElem?_dropLast, if_pos (by simpa using hk), List.getElem?_set] at h
 refine ⟨hk, ?_⟩
 by_cases e : j = k
 ·subst e
  rw [if_pos rfl, if_pos (by omega)] at h
  exact .inl ⟨rfl, (by simpa using h.symm), hk⟩
 ·rw [if_neg e] at h
  exact .inr ⟨fun q => e q.symm, h⟩
theorem at_taken {own : List (Nat × Nat)} {j : Nat} {x : Nat × Nat} {k : Nat} (hk : k < own.length - 1) : (taken own j x)[k]? = if j = k then some x else own[k]? := by
 unfold taken
 rw [List.getElem?_dropLast, if_pos (by simpa using hk), List.getElem?_set]
 by_cases e : j = k
 ·rw [if_pos e, if_pos e, if_pos (by omega)]
 ·rw [if_neg e, if_neg e]
def seated (own : List (Nat × Nat)) (n j : Nat) (x : Nat × Nat) (seat : List (Nat × Nat)) : List (Nat × Nat) := if j < own.length - 1 then seat.set x.1 (n, j) else seat
def left (own : List (Nat × Nat)) (j : Nat) (x : Nat × Nat) : Option (List (Nat × Nat)) := if own.length - 1 = 0 then none else some (taken own j x)
theorem Lk.leave (h : Lk none tab seat s) {i g n j : Nat} {own : List (Nat × Nat)} {x : Nat × Nat} (hs : seat[i]? = some (n, j)) (ht : tab n = some own) (ho : own[j]? = some (i, g)) (hx : own[own.length - 1]? = some x) :
  Lk (some i) (tput tab n (left own j x)) (seated own n j x seat) s := by
 have hj := (List.getElem?_eq_some_iff.1 ho).1
 obtain ⟨ax, -, sx, -⟩ := (h.back n own ht).2 _ x.1 x.2 hx
 obtain ⟨ai, -, si, -⟩ := (h.back n own ht).2 _ i g ho
 have hxi : x.1 = i ↔ own.length - 1 = j := by
  constructor
  ·intro e
   exact (h.one ht ht (i := i) (g := x.2) (by rw [hx, ← e]) ho).2
  ·intro e
   rw [e, ho] at hx
   simp at hx
   rw [← hx]
 have sat : ∀ k, (seated own n j x seat)[k]? = if j < own.length - 1 ∧ k = x.1 then some (n, j) else seat[k]? := by
  intro k
  unfold seated
  by_cases c : j < own.length - 1
  ·rw [if_pos c, List.getElem?_set]
   by_cases e : x.1 = k
   ·rw [if_pos e, if_pos (List.getElem?_eq_some_iff.1 sx).1, if_pos ⟨c, e.symm⟩]
   ·rw [if_neg e, if_neg fun q => e q.2.symm]
  ·rw [if_neg c, if_neg fun q => c q.1]
 refine ⟨?_, ?_, ?_, fun k q hk _ => h.ok k q hk (by simp)⟩
 ·rw [← h.len]; unfold seated; split <;> simp
 ·intro k q hk hne
  obtain ⟨n', j', own', e1, e2, e3, e4⟩ := h.here k q hk (by simp)
  have hki : k ≠ i := fun e => hne (by rw [e])
  by_cases en : n' = n
  ·subst en
   obtain rfl : own = own' := by rw [ht] at e2; simpa using e2
   have hj' := (List.getElem?_eq_some_iff.1 e3).1
   have hjj : j' ≠ j := fun e => hki (by rw [e, ho] at e3; simp at e3; exact e3.1.symm)
   have h1 : own.length - 1 ≠ 0 := by omega
   by_cases el : j' = own.length - 1
   ·obtain rfl : x = (k, q) := by rw [← el, e3] at hx; simpa using hx.symm
    refine ⟨n', j, taken own j (k, q), ?_, by rw [tput_same, left, if_neg h1], ?_, e4⟩
    ·rw [sat, if_pos ⟨by omega, rfl⟩]
    ·rw [at_taken (by omega), if_pos rfl]
   ·have hkx : k ≠ x.1 := fun e => el (h.one ht ht e3 (i := k) (g' := x.2) (by rw [hx, e])).2
    refine ⟨n', j', taken own j x, ?_, by rw [tput_same, left, if_neg h1], ?_, e4⟩
    ·rw [sat, if_neg fun q => hkx q.2]; exact e1
    ·rw [at_taken (by omega), if_neg fun e => hjj e.symm]; exact e3
  ·refine ⟨n', j', own', ?_, by rw [tput_ne _ en]; exact e2, e3, e4⟩
   have hkx : k ≠ x.1 := fun e => en (h.one e2 ht e3 (i := k) (g' := x.2) (by rw [hx, e])).1
   rw [sat, if_neg fun q => hkx q.2]; exact e1
 ·intro n' own' e2
  by_cases en : n' = n
  ·subst en
   rw [tput_same, left] at e2
   split at e2
   ·cases e2
   ·rename_i h1
    simp at e2
    subst e2
    refine ⟨fun e => h1 (by rw [← taken_len own j x, e]; rfl), ?_⟩
    intro k i' g' hk
    obtain ⟨hk1, hk2⟩ := taken_at hk
    rcases hk2 with ⟨rfl, rfl, hjl⟩ | ⟨hkj, hk2⟩
    ·have b := (h.back n' own ht).2 _ i' g' hx
     refine ⟨b.1, fun e => ?_, ?_, b.2.2.2⟩
     ·have := hxi.1 (by simpa using e.symm); omega
     ·rw [sat, if_pos ⟨hjl, rfl⟩]
    ·have b := (h.back n' own ht).2 _ i' g' hk2
     refine ⟨b.1, fun e => ?_, ?_, b.2.2.2⟩
     ·simp at e; subst e; exact hkj (h.one ht ht hk2 ho).2
     ·rw [sat, if_neg fun q => ?_]; exact b.2.2.1
      have := (h.one ht ht hk2 (i := i') (g' := x.2) (by rw [hx, q.2])).2
      omega
  ·rw [tput_ne _ en] at e2
   refine ⟨(h.back n' own' e2).1, ?_⟩
   intro k i' g' hk
   have b := (h.back n' own' e2).2 _ i' g' hk
   refine ⟨b.1, fun e => ?_, ?_, b.2.2.2⟩
   ·simp at e; subst e; exact en (h.one e2 ht hk ho).1
   ·rw [sat, if_neg fun q => ?_]; exact b.2.2.1
    exact en (h.one e2 ht hk (i := i') (g' := x.2) (by rw [hx, q.2])).1
def entered (s : SD) (i : Nat) (l : List Prt) : SD := { s with p := s.p.set i l, sets := add s.sets (mskP l) }
theorem at_entered {s : SD} {i : Nat} (l : List Prt) (hi : i < s.p.length) : (entered s i l).at i = l := by
 unfold entered SD.at
 rw [List.getD_eq_getElem?_getD, List.getElem?_set_self hi]
 rfl
theorem at_other {s : SD} {i k : Nat} (l : List Prt) (h : k ≠ i) : (entered s i l).at k = s.at k := by
 unfold entered SD.at
 rw [List.getD_eq_getElem?_getD, List.getD_eq_getElem?_getD, List.getElem?_set_ne (fun e => h e.symm)]
theorem Lk.enter {i g : Nat} (h : Lk (some i) tab seat s) (ha : al s i g) (hp : s.r.gens.length ≤ s.p.length) {l : List Prt} (hl : okE s.ws l) {own : List (Nat × Nat)} (ho : tab (s.sets.idxOf (mskP l)) = some own ∨ (tab (s.sets.idxOf (mskP l)) = none ∧ own = [])) :
  Lk none (tput tab (s.sets.idxOf (mskP l)) (some (own ++ [(i, g)]))) (seat.set i (s.sets.idxOf (mskP l), own.length)) (entered s i l) := by
 have hi := al_lt ha
 have his : i < seat.length := by rw [h.len]; exact hi
 have hip : i < s.p.length := by omega
 have hset : (add s.sets (mskP l))[s.sets.idxOf (mskP l)]? = some (mskP l) := At.add_get _ _
 have hold : ∀ n m, s.sets[n]? = some m → (add s.sets (mskP l))[n]? = some m := fun n m q => (At.add_old _ (List.getElem?_eq_some_iff.1 q).1).trans q
 have ala : ∀ k q, al (entered s i l) k q ↔ al s k q := fun k q => Iff.rfl
 have hown : ∀ (j : Nat) i' g', own[j]? = some (i', g') → al s i' g' ∧ some i ≠ some i' ∧ seat[i']? = some (s.sets.idxOf (mskP l), j) ∧ s.sets[s.sets.idxOf (mskP l)]? = some (mskP (s.at i')) := by
  intro j i' g' e
  rcases ho with ho | ⟨_, rfl⟩
  ·exact (h.back _ own ho).2 j i' g' e
  ·simp at e
 refine ⟨?_, ?_, ?_, ?_⟩
 ·simpa [entered] using h.len
 ·intro k q hk _
  rw [ala] at hk
  by_cases e : k = i
  ·subst e
   obtain rfl := al_gen ha hk
   refine ⟨_, _, _, List.getElem?_set_self his, tput_same _ _ _, by simp, ?_⟩
   rw [at_entered l hip]
   exact hset
  ·obtain ⟨n, j, own', e1, e2, e3, e4⟩ := h.here k q hk (fun q => e (by simpa using q.symm))
   rw [at_other l e]
   by_cases en : n = s.sets.idxOf (mskP l)
   ·rw [en] at e2 e1
    have eo : own = own' := by
     rcases ho with ho | ⟨ho, _⟩
     ·rw [ho] at e2; simpa using e2
     ·rw [ho] at e2; cases e2
    subst eo
    refine ⟨_, j, _, ?_, tput_same _ _ _, ?_, hold _ _ (en ▸ e4)⟩
    ·rw [List.getElem?_set_ne fun q => e q.symm]; exact e1
    ·rw [List.getElem?_append_left (List.getElem?_eq_some_iff.1 e3).1]; exact e3
   ·refine ⟨n, j, own', ?_, by rw [tput_ne _ en]; exact e2, e3, hold _ _ e4⟩
    rw [List.getElem?_set_ne fun q => e q.symm]; exact e1
 ·intro n own' e2
  by_cases en : n = s.sets.idxOf (mskP l)
  ·subst en
   rw [tput_same] at e2
   simp at e2
   subst e2
   refine ⟨by simp, ?_⟩
   intro j i' g' e
   rw [List.getElem?_append] at e
   split at e
   ·obtain ⟨b1, b2, b3, b4⟩ := hown j i' g' e
    have hne : i' ≠ i := fun q => b2 (by rw [q])
    exact ⟨b1, by simp, by rw [List.getElem?_set_ne fun q => hne q.symm]; exact b3, by rw [at_other l hne]; exact hold _ _ b4⟩
   ·rename_i hj
    have hj' : j - own.length = 0 := by
     have := (List.getElem?_eq_some_iff.1 e).1
     simp at this
     omega
    rw [hj'] at e
    simp at e
    obtain ⟨rfl, rfl⟩ := e
    refine ⟨ha, by simp, ?_, ?_⟩
    ·rw [List.getElem?_set_self his]
     congr 2
     omega
    ·rw [at_entered l hip]; exact hset
  ·rw [tput_ne _ en] at e2
   refine ⟨(h.back n own' e2).1, ?_⟩
   intro j i' g' e
   obtain ⟨b1, b2, b3, b4⟩ := (h.back n own' e2).2 j i' g' e
   have hne : i' ≠ i := fun q => b2 (by rw [q])
   exact ⟨b1, by simp, by rw [List.getElem?_set_ne fun q => hne q.symm]; exact b3, by rw [at_other l hne]; exact hold _ _ b4⟩
 ·intro k q hk _
  rw [ala] at hk
  by_cases e : k = i
  ·subst e
   rw [at_entered l hip]
   exact hl
  ·rw [at_other l e]
   exact h.ok k q hk (fun q => e (by simpa using q.symm))
theorem al_took {f : List Nat} {i : Nat} (hok : s.r.ok) (hf : s.r.free = f ++ [i]) (k g : Nat) : al { s with r := s.r.took i } k g ↔ (k = i ∧ g = s.r.gens.getD i 0 + 1) ∨ al s k g := by
 unfold al
 show (s.r.took i).aliveB _ _ = true ↔ _
 rw [RS.took_alive hok hf]
 split
 ·rename_i hc
  simp only [true_iff]
  exact .inl ⟨by omega, by have := hc.2; omega⟩
 ·rename_i hc
  constructor
  ·exact .inr
  ·rintro (⟨rfl, rfl⟩ | q)
   ·exact absurd ⟨rfl, rfl⟩ hc
   ·exact q
theorem Lk.take (h : Lk none tab seat s) {f : List Nat} {i : Nat} (hok : s.r.ok) (hf : s.r.free = f ++ [i]) : Lk (some i) tab seat { s with r := s.r.took i } := by
 have hdead : ∀ g, ¬ al s i g := fun g q => by
  rw [al_iff, hf] at q
  simp at q
 refine ⟨?_, ?_, ?_, ?_⟩
 ·simpa [RS.took] using h.len
 ·intro k g hk hne
  rcases (al_took hok hf k g).1 hk with ⟨rfl, -⟩ | hk
  ·exact absurd rfl hne
  ·exact h.here k g hk (by simp)
 ·intro n own e
  refine ⟨(h.back n own e).1, fun j k g ek => ?_⟩
  obtain ⟨b1, b2, b3⟩ := (h.back n own e).2 j k g ek
  exact ⟨(al_took hok hf k g).2 (.inr b1), fun q => hdead g (by simp at q; rw [q]; exact b1), b3⟩
 ·intro k g hk hne
  rcases (al_took hok hf k g).1 hk with ⟨rfl, -⟩ | hk
  ·exact absurd rfl hne
  ·exact h.ok k g hk (by simp)
theorem al_freed {i g : Nat} (ha : al s i g) (k q : Nat) : al { s with r := s.r.freed i } k q ↔ al s k q ∧ k ≠ i := by
 unfold al
 show (s.r.freed i).aliveB _ _ = true ↔ _
 have := RS.freed_alive (r := s.r) ha (k : Int) (q : Int)
 rw [Int.toNat_natCast] at this
 rw [this]
 split
 ·rename_i hc
  simp only [Bool.false_eq_true, false_iff]
  rintro ⟨-, hne⟩
  exact hne (by omega)
 ·rename_i hc
  constructor
  ·intro hk
   refine ⟨hk, fun e => hc ⟨by omega, ?_⟩⟩
   subst e
   have := al_gen ha hk
   omega
  ·exact fun hk => hk.1
theorem Lk.free {i g : Nat} (h : Lk (some i) tab seat s) (ha : al s i g) : Lk none tab seat { s with r := s.r.freed i } := by
 refine ⟨h.len, ?_, ?_, ?_⟩
 ·intro k q hk _
  obtain ⟨h1, h2⟩ := (al_freed ha k q).1 hk
  exact h.here k q h1 fun e => h2 (by simpa using e.symm)
 ·intro n own e
  refine ⟨(h.back n own e).1, fun j k q ek => ?_⟩
  obtain ⟨b1, b2, b3⟩ := (h.back n own e).2 j k q ek
  exact ⟨(al_freed ha k q).2 ⟨b1, fun e => b2 (by rw [e])⟩, by simp, b3⟩
 ·intro k q hk _
  obtain ⟨h1, h2⟩ := (al_freed ha k q).1 hk
  exact h.ok k q h1 fun e => h2 (by simpa using e.symm)
def rowed (s : SD) (i : Nat) (l : List Prt) : SD := { s with p := s.p.set i l }
theorem at_rowed {s : SD} {i : Nat} (l : List Prt) (hi : i < s.p.length) : (rowed s i l).at i = l := by
 unfold rowed SD.at
 rw [List.getD_eq_getElem?_getD, List.getElem?_set_self hi]
 rfl
theorem at_rowed_other {s : SD} {i k : Nat} (l : List Prt) (h : k ≠ i) : (rowed s i l).at k = s.at k := by
 unfold rowed SD.at
 rw [List.getD_eq_getElem?_getD, List.getD_eq_getElem?_getD, List.getElem?_set_ne (fun e => h e.symm)]
theorem Lk.put (h : Lk none tab seat s) {i : Nat} {l : List Prt} (hi : i < s.p.length) (hm : mskP l = mskP (s.at i)) (hl : okE s.ws l) : Lk none tab seat (rowed s i l) := by
 have e : ∀ k, mskP ((rowed s i l).at k) = mskP (s.at k) := fun k => by
  by_cases q : k = i
  ·rw [q, at_rowed l hi, hm]
  ·rw [at_rowed_other l q]
 refine ⟨h.len, ?_, ?_, ?_⟩
 ·intro k q hk _
  rw [e]
  exact h.here k q hk (by simp)
 ·intro n own en
  refine ⟨(h.back n own en).1, fun j k q ek => ?_⟩
  rw [e]
  exact (h.back n own en).2 j k q ek
 ·intro k q hk _
  by_cases ek : k = i
  ·rw [ek, at_rowed l hi]; exact hl
  ·rw [at_rowed_other l ek]; exact h.ok k q hk (by simp)
end
end So
end Go.Proofs.YtnlcbheidiigaaaGreatDoor
