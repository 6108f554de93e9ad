/- The document's Check. -/
import Derived.Test.YtbfjijiakkopeaaDoorScCc
import Derived.Test.YtbfjijiakkopeaaDoorScSg
import Derived.Deep.DeepCutAuto
import Derived.Deep.CutRange
import Derived.Deep.LoopGhost
namespace Go.Proofs.YtbfjijiakkopeaaDoor.Sc
open Go.RowKit Go.Shelf
theorem manyL_len (l : ByteArray) (m n : Nat) : (manyL l m n).length ≤ 1 := by unfold manyL; split <;> simp
theorem manyL_yes (l : ByteArray) (m n : Nat) (h : (m : Int) < (n : Int)) : manyL l m n = [([l], 4)] := by unfold manyL; rw [if_pos h]
theorem manyL_no (l : ByteArray) (m n : Nat) (h : ¬ ((m : Int) < (n : Int))) : manyL l m n = [] := by unfold manyL; rw [if_neg h]
theorem add_eq (a b c : ByteArray) (ha : a.size ≤ 1000) (hb : b.size ≤ 1000) (hc : a ++ b = c) (W : World) : (Op.stringOp .add a b).run Tryd.prog W = .ok (.string c) W := by
  subst hc
  exact run_string_add_sum W _ _ (by omega)
theorem Cells7.def {g m : Nat} {x : Cmp} {w : World} {y : Int} (h : Cells7 g x w) (hy : (dl x)[m]? = some y) : w.cell? ⟨g, 3 + m, none⟩ = some (.int .i64 y) := by
  obtain ⟨c0, c1, c2, c3, c4, c5, c6⟩ := h
  match m, hy with
  | 0, hy => simp [dl] at hy; subst hy; exact c3
  | 1, hy => simp [dl] at hy; subst hy; exact c4
  | 2, hy => simp [dl] at hy; subst hy; exact c5
  | 3, hy => simp [dl] at hy; subst hy; exact c6
  | m + 4, hy => simp [dl] at hy
theorem foundV_form (i : Int) : ∃ (n : Int) (b : Bool), foundV i = .tuple #[.int .i64 n, .bool b] ∧ (b = true ↔ 0 ≤ i) ∧ (b = true → n = i) := by
  by_cases h : i < 0
  · exact ⟨0, false, foundV_no h, by simp; omega, by simp⟩
  · exact ⟨i, true, foundV_yes h, by simp; omega, by simp⟩
theorem wErr_bad {x : Cmp} (h : ¬ (1 ≤ x.wd ∧ x.wd ≤ 4)) : wErr x = [1] ∧ dErr x = [] := by
  have := wOk_no x h
  simp [wErr, dErr, this]
theorem wErr_ok {x : Cmp} (h : 1 ≤ x.wd ∧ x.wd ≤ 4) : wErr x = [] ∧ dErr x = if clTo x 4 then [] else [1] := by
  have := wOk_yes x h
  exact ⟨by simp [wErr, this], clTo_err this⟩
theorem FG.grown {w0 wr : World} {g : Nat} {x : Cmp} {o : Value} {ls ls' : Leaves} (h : FG w0 g x o ls wr) (e : ls = ls') : FG w0 g x o ls' wr := e ▸ h
theorem FL.grown {w0 wr : World} {o : Value} {ls ls' : Leaves} (h : FL w0 o ls wr) (e : ls = ls') : FL w0 o ls' wr := e ▸ h
set_option maxHeartbeats 4000000 in
set_option maxRecDepth 100000 in
theorem rcheck_any (w : World) (va vb : Value) (cs : List Cmp) (rs : List Rsc) (hC : CmpRow w va cs) (hQ : RscRow w vb rs) (hsC : SmallC cs) (hsQ : SmallQ rs) :
    Calls Tryd.prog 10 #[.agg #[va, vb]] w fun e w' => ∃ lv, e = .returned lv ∧ w'.ownsRow w.heap.size 77 2 lv (checkL cs rs).length (leafCells (checkL cs rs)) ∧ Below w.heap.size w w' := by
  have HC := hid hC
  have HQ := hid hQ
  obtain ⟨a, c, rfl, hcap, hlay⟩ := hC
  obtain ⟨a', c', rfl, hcap', hlay'⟩ := hQ
  have HL := hid hlay
  have HL' := hid hlay'
  have HS := hid hsC
  have HS' := hid hsQ
  have h40 : cs.length ≤ 40 := hsC.1
  have h40' : rs.length ≤ 40 := hsQ.1
  have h40i : (cs.length : Int) ≤ 40 := by omega
  have h40i' : (rs.length : Int) ≤ 40 := by omega
  clear hlay hlay' hcap hcap' hsC hsQ
  obtain ⟨w0, hw0⟩ : ∃ w0, w0 = w.alloc (.cells #[.slice a cs.length c, .slice a' rs.length c'] 25) := ⟨_, rfl⟩
  have B0 : Hid (Below w.heap.size w w0) := by rw [hw0]; exact (Below.refl _ _).alloc (Nat.le_refl _) _
  obtain ⟨x0, x1⟩ := cell_new2 w (.slice a cs.length c) (.slice a' rs.length c') 25
  rw [← hw0] at x0 x1
  have X0 := hid x0
  have X1 := hid x1
  obtain ⟨w00, hw00⟩ : ∃ w00, w00 = w0.alloc (.cells #[] 77) := ⟨_, rfl⟩
  have F0 : Hid (FL w0 (.slice (some ⟨w0.heap.size, 0, none⟩) 0 0) [] w00) := by
    rw [hw00]
    exact ⟨World.ownsRow_lit w0 #[] 0 (Nat.le_refl _) (by simp [maxLen]) rfl, (Below.refl _ _).alloc (Nat.le_refl _) _, by simp⟩
  have x0 := Below.seen F0.out.bel (Nat.le_refl _) x0
  go_enter Tryd.func10, Tryd.ntmps10
  go_upto_region 1 with fail
  rw [← hw0]
  clear hw0
  go_upto_region 2 with fail
  rw [← hw00]
  clear hw00
  go_upto_if 22 with fail
  go_cut [3] (fun s3 wx => FL w0 s3 (manyL bComps 16 cs.length) wx)
  case first =>
    by_cases hm : (16 : Int) < (cs.length : Int)
    · have R := hid (manyL_yes bComps 16 cs.length hm)
      go_wp2_with (at_builtin; refine wpList_flaw w0 _ rfl (.tmp 23) (.tmp 25) rfl _ [] (by rfl) F0.out [bComps] 4 _ (joinB_one _).symm (by rfl) (by simp) ?_; intro v' w' HF HK)
      go_meet
      exact HF.out.grown (by rw [R.out]; rfl)
    · have R := hid (manyL_no bComps 16 cs.length hm)
      go_wp2_with fail
      go_meet
      exact F0.out.grown R.out.symm
  case rest =>
    have HF := hid hcut
    clear hcut F0 x0 x1
    go_wp2_with fail
    go_loopg [3, 4, 5, 6, 7, 8, 9, 10] cs.length (fun gh s3 s4 _ _ _ _ _ _ wx => ∃ k : Nat, k ≤ cs.length ∧ gh = cs.length - k ∧ s4 = .int .i64 (k : Int) ∧ Hid (FL w0 s3 (manyL bComps 16 cs.length ++ compL cs k) wx))
    case atStart => exact ⟨0, Nat.zero_le _, rfl, rfl, HF.out.grown (by simp [compL])⟩
    case round =>
      rename World => wo
      obtain ⟨k, hk, rfl, rfl, HK⟩ := hrel
      by_cases hlt : k < cs.length
      · have hki : (k : Int) < (cs.length : Int) := by omega
        obtain ⟨x, hx⟩ := at_lt cs k hlt
        obtain ⟨b, o, rfl, hc⟩ : ∃ b o, a = some ⟨b, o, none⟩ ∧ ∀ (j : Nat) (x : Cmp), cs[j]? = some x → w.cell? ⟨b, o + j * 7, none⟩ = some (.string x.s) ∧ w.cell? ⟨b, o + j * 7 + 1, none⟩ = some (.int .i64 x.wd) ∧ w.cell? ⟨b, o + j * 7 + 2, none⟩ = some (.bool x.rb) ∧ w.cell? ⟨b, o + j * 7 + 3, none⟩ = some (.int .i64 x.d0) ∧ w.cell? ⟨b, o + j * 7 + 4, none⟩ = some (.int .i64 x.d1) ∧ w.cell? ⟨b, o + j * 7 + 5, none⟩ = some (.int .i64 x.d2) ∧ w.cell? ⟨b, o + j * 7 + 6, none⟩ = some (.int .i64 x.d3) := by
          rcases HL.out with h | h
          · rw [h] at hx; simp at hx
          · exact h
        obtain ⟨c0, c1, c2, c3, c4, c5, c6⟩ := hc k x hx
        have BW := hid (B0.out.trans (HK.out.bel.mono B0.out.size))
        have S := fun {p : Addr} {u : Value} (h : w.cell? p = some u) => Below.seen BW.out (Nat.le_refl _) h
        have c0 := S c0
        have c1 := S c1
        have c2 := S c2
        have c3 := S c3
        have c4 := S c4
        have c5 := S c5
        have c6 := S c6
        have y0 := Below.seen HK.out.bel (Nat.le_refl _) X0.out
        have CN := hid (compL_next hx)
        have HX := hid hx
        obtain ⟨wa, hwa⟩ : ∃ wa, wa = wo.alloc (.cells #[.string x.s, .int .i64 x.wd, .bool x.rb, .int .i64 x.d0, .int .i64 x.d1, .int .i64 x.d2, .int .i64 x.d3] 80) := ⟨_, rfl⟩
        have BA : Hid (Below wo.heap.size wo wa) := by rw [hwa]; exact (Below.refl _ _).alloc (Nat.le_refl _) _
        obtain ⟨g, hg⟩ : ∃ g, g = wo.heap.size := ⟨_, rfl⟩
        obtain ⟨ls, hls⟩ : ∃ ls, ls = manyL bComps 16 cs.length ++ compL cs k := ⟨_, rfl⟩
        have LL : Hid (ls.length ≤ 121) := by
          show _ ≤ _
          rw [hls, List.length_append]
          have := manyL_len bComps 16 cs.length
          have := compL_len cs k
          omega
        rw [← hls] at HK
        have GA : Hid (FG w0 g x _ ls wa) := ⟨HK.out.later BA.out, by
          rw [hwa, hg]
          exact ⟨row_cell wo [.string x.s, .int .i64 x.wd, .bool x.rb, .int .i64 x.d0, .int .i64 x.d1, .int .i64 x.d2, .int .i64 x.d3] 80 0 _ rfl, row_cell wo [.string x.s, .int .i64 x.wd, .bool x.rb, .int .i64 x.d0, .int .i64 x.d1, .int .i64 x.d2, .int .i64 x.d3] 80 1 _ rfl, row_cell wo [.string x.s, .int .i64 x.wd, .bool x.rb, .int .i64 x.d0, .int .i64 x.d1, .int .i64 x.d2, .int .i64 x.d3] 80 2 _ rfl, row_cell wo [.string x.s, .int .i64 x.wd, .bool x.rb, .int .i64 x.d0, .int .i64 x.d1, .int .i64 x.d2, .int .i64 x.d3] 80 3 _ rfl, row_cell wo [.string x.s, .int .i64 x.wd, .bool x.rb, .int .i64 x.d0, .int .i64 x.d1, .int .i64 x.d2, .int .i64 x.d3] 80 4 _ rfl, row_cell wo [.string x.s, .int .i64 x.wd, .bool x.rb, .int .i64 x.d0, .int .i64 x.d1, .int .i64 x.d2, .int .i64 x.d3] 80 5 _ rfl, row_cell wo [.string x.s, .int .i64 x.wd, .bool x.rb, .int .i64 x.d0, .int .i64 x.d1, .int .i64 x.d2, .int .i64 x.d3] 80 6 _ rfl⟩, fun e => by
          have := (HK.out.own.lt _ e).2
          omega⟩
        have DC := hid (digits_any k (by omega) wa)
        have d2 : (dig k).size ≤ 2 := dig_size k (by omega)
        obtain ⟨p1, hp1⟩ : ∃ p1, p1 = (⟨#[99, 111, 109, 112, 111, 110, 101, 110, 116, 115, 47]⟩ : ByteArray) ++ dig k := ⟨_, rfl⟩
        have s1 : p1.size ≤ 20 := by rw [hp1, ByteArray.size_append]; show 11 + _ ≤ _; omega
        obtain ⟨p2, hp2⟩ : ∃ p2, p2 = p1 ++ (⟨#[47]⟩ : ByteArray) := ⟨_, rfl⟩
        have s2 : p2.size ≤ 30 := by rw [hp2, ByteArray.size_append]; show _ + 1 ≤ _; omega
        have a1 := add_eq ⟨#[99, 111, 109, 112, 111, 110, 101, 110, 116, 115, 47]⟩ (dig k) p1 (show 11 ≤ 1000 by decide) (by omega) hp1.symm
        have a2 := add_eq p1 ⟨#[47]⟩ p2 (by omega) (show 1 ≤ 1000 by decide) hp2.symm
        have PJ : ∀ p, p2 ++ p = joinB [bComps, dig k, p] := fun p => by rw [hp2, hp1]; exact path_c (dig k) p
        have a3 := add_eq p2 ⟨#[110, 97, 109, 101]⟩ (joinB [bComps, dig k, bName]) (by omega) (show 4 ≤ 1000 by decide) (PJ _)
        have a4 := add_eq p2 ⟨#[119, 105, 100, 116, 104]⟩ (joinB [bComps, dig k, bWidth]) (by omega) (show 5 ≤ 1000 by decide) (PJ _)
        have a5 := add_eq p2 ⟨#[100, 101, 102, 97, 117, 108, 116]⟩ (joinB [bComps, dig k, bDefault]) (by omega) (show 7 ≤ 1000 by decide) (PJ _)
        have A3 := hid a3
        have A4 := hid a4
        have A5 := hid a5
        clear hp1 hp2 PJ S hc hx s1 s2 a3 a4 a5 d2
        go_upto_region 8 with fail
        rw [← hwa, ← hg]
        clear hwa hg
        go_wp2_with fail
        refine DC.out.mono ?_
        rintro e w1 ⟨rfl, hb1⟩
        have G1 := hid (GA.out.later hb1)
        obtain ⟨c0, c1, c2, c3, c4, c5, c6⟩ := G1.out.cells
        have NC := hid (refname_any x.s w1)
        have y0 := Below.seen G1.out.fl.bel (Nat.le_refl _) X0.out
        have y1 := Below.seen G1.out.fl.bel (Nat.le_refl _) X1.out
        clear hb1 DC GA BA HK
        go_wp2_with fail
        refine NC.out.mono ?_
        rintro e w2 ⟨rfl, rfl⟩
        clear NC
        go_upto_if 46 with fail
        go_cut [3] from 27 to 107 (fun s3 wx => FG w0 g x s3 (ls ++ at3 bComps k bName (nErr (seenTo ((cs.take k).map Cmp.s)) x.s)) wx)
        case first =>
          cases hi : isNm x.s with
          | false =>
            have R := hid (nErr_bad (seenTo ((cs.take k).map Cmp.s)) hi)
            have a3 := A3.out
            go_wp2_with (at_builtin; refine wpList_flaw w0 _ rfl (.tmp 47) (.tmp 51) rfl _ ls (by rfl) G1.out.fl [bComps, dig k, bName] 10 _ rfl (by rfl) (by have := LL.out; omega) ?_; intro v' w' HF HK)
            go_meet
            refine (G1.out.app HF.out HK.out).grown ?_
            rw [R.out]; rfl
          | true =>
            have BW2 := hid (B0.out.trans (G1.out.fl.bel.mono B0.out.size))
            have FC := hid (rfind_any w2 _ (.slice a' rs.length c') cs (HC.out.later BW2.out) (by omega) x.s)
            have hmem : x.s ∈ cs.map Cmp.s := List.mem_map.2 ⟨x, List.mem_of_getElem? HX.out, rfl⟩
            have hf0 := (firstI_all x.s (cs.map Cmp.s)).2 hmem
            have FM := hid (firstI_mem x.s (cs.map Cmp.s) 0 k)
            rw [foundV_yes (by omega)] at FC
            generalize firstI x.s (cs.map Cmp.s) 0 = fi at *
            have F0' := hid hf0
            have HI := hid hi
            clear hmem hf0 hi
            go_wp2_with fail
            refine FC.out.mono ?_
            rintro e w3 ⟨rfl, hb3⟩
            have G3 := hid (G1.out.later hb3)
            clear FC hb3
            by_cases hfk : fi < (k : Int)
            · have R : Hid (nErr (seenTo ((cs.take k).map Cmp.s)) x.s = [9]) := nErr_was HI.out (by rw [List.map_take]; exact FM.out.1 ⟨F0'.out, by omega⟩)
              have a3 := A3.out
              go_wp2_with (at_builtin; refine wpList_flaw w0 _ rfl (.tmp 66) (.tmp 70) rfl _ ls (by rfl) G3.out.fl [bComps, dig k, bName] 9 _ rfl (by rfl) (by have := LL.out; omega) ?_; intro v' w' HF HK)
              go_meet
              refine (G3.out.app HF.out HK.out).grown ?_
              rw [R.out]; rfl
            · have R : Hid (nErr (seenTo ((cs.take k).map Cmp.s)) x.s = []) := nErr_new HI.out (by rw [List.map_take]; intro h; have := (FM.out.2 h).2; omega)
              go_wp2_with fail
              go_meet
              refine G3.out.grown ?_
              rw [R.out]; simp [at3]
        case rest =>
          have G2 := hid hcut
          obtain ⟨L1, hL1⟩ : ∃ L1, L1 = ls ++ at3 bComps k bName (nErr (seenTo ((cs.take k).map Cmp.s)) x.s) := ⟨_, rfl⟩
          have LL1 : Hid (L1.length ≤ 122) := by
            show _ ≤ _
            rw [hL1, List.length_append, at3_len]
            have := (nErr_len (seenTo ((cs.take k).map Cmp.s)) x.s).1
            have := LL.out
            omega
          rw [← hL1] at G2
          have CE : Hid (manyL bComps 16 cs.length ++ compL cs (k + 1) = L1 ++ (at3 bComps k bWidth (wErr x) ++ at3 bComps k bDefault (dErr x))) := by
            show _ = _
            rw [CN.out, hL1, hls]; simp [leafC]
          clear hcut G1 hL1 hls CN HX A3 c0 c1 c2 c3 c4 c5 c6 a1 a2 y0 y1
          obtain ⟨c0, c1, c2, c3, c4, c5, c6⟩ := G2.out.cells
          by_cases hw : 1 ≤ x.wd ∧ x.wd ≤ 4
          · obtain ⟨we, de⟩ := wErr_ok hw
            obtain ⟨hw1, hw4⟩ := hw
            obtain ⟨m0, hm0⟩ : ∃ m0 : Nat, x.wd = (m0 : Int) := Int.eq_ofNat_of_zero_le (by omega)
            have htn : x.wd.toNat = m0 := by omega
            have CF : Hid (clTo x m0 = true) := by rw [← htn]; exact clTo_from x
            have CW := hid htn
            rw [hm0] at c1 hw1 hw4
            rw [we, de] at CE
            have h04 : m0 ≤ 4 := by omega
            have n1 : ¬ ((m0 : Int) < 1) := by omega
            have n4 : ¬ ((4 : Int) < (m0 : Int)) := by omega
            clear we de hm0 htn c2 c3 c4 c5 c6 hw1 hw4
            go_wp2_with fail
            go_loopg [9, 10] (4 - m0) (fun gh s9 s10 wx => wx = wc ∧ ∃ m : Nat, m0 ≤ m ∧ m ≤ 4 ∧ gh = 4 - m ∧ s10 = .int .i64 (m : Int) ∧ ∃ cl : Bool, s9 = .bool cl ∧ Hid (cl = clTo x m))
            case atStart => exact ⟨rfl, m0, Nat.le_refl _, h04, rfl, rfl, true, rfl, CF.out.symm⟩
            case round =>
              obtain ⟨rfl, m, hm1, hm2, rfl, rfl, cl, rfl, HCl⟩ := hrel
              by_cases hm : m < 4
              · have hmi : (m : Int) < 4 := by omega
                obtain ⟨y, hy⟩ := at_lt (dl x) m hm
                have cy := G2.out.cells.def hy
                have CX := hid (clTo_next hy (by have := CW.out; omega))
                clear hy
                cases cl with
                | false =>
                  have R : Hid (false = clTo x (m + 1)) := by show _ = _; rw [CX.out, ← HCl.out]; rfl
                  clear HCl CX cy
                  go_wp2_with fail
                  go_roundg (4 - (m + 1))
                  case measure => omega
                  case rel => exact ⟨rfl, m + 1, by omega, by omega, rfl, by go_num, false, rfl, R.out⟩
                | true =>
                  have R : Hid ((y == 0) = clTo x (m + 1)) := by show _ = _; rw [CX.out, ← HCl.out]; rfl
                  clear HCl CX
                  go_wp2_with fail
                  go_roundg (4 - (m + 1))
                  case measure => omega
                  case rel => exact ⟨rfl, m + 1, by omega, by omega, rfl, by go_num, (y == 0), rfl, R.out⟩
              · have hmi : ¬ ((m : Int) < 4) := by omega
                have hm4 : m = 4 := by omega
                rw [hm4] at HCl
                cases cl with
                | true =>
                  have R : Hid (L1 = manyL bComps 16 cs.length ++ compL cs (k + 1)) := by show _ = _; rw [CE.out, ← HCl.out]; simp [at3]
                  clear HCl hm4
                  go_wp2_with fail
                  go_roundg (cs.length - (k + 1))
                  case measure => omega
                  case rel => exact ⟨k + 1, by omega, rfl, by go_num, G2.out.fl.grown R.out⟩
                | false =>
                  have R : Hid (L1 ++ [([bComps, dig k, bDefault], 1)] = manyL bComps 16 cs.length ++ compL cs (k + 1)) := by show _ = _; rw [CE.out, ← HCl.out]; simp [at3]
                  have a5 := A5.out
                  clear HCl hm4
                  go_wp2_with (at_builtin; refine wpList_flaw w0 _ rfl (.tmp 102) (.tmp 106) rfl _ L1 (by rfl) G2.out.fl [bComps, dig k, bDefault] 1 _ rfl (by rfl) (by have := LL1.out; omega) ?_; intro v' w' HF HK)
                  go_roundg (cs.length - (k + 1))
                  case measure => omega
                  case rel => exact ⟨k + 1, by omega, rfl, by go_num, HF.out.grown R.out⟩
          · obtain ⟨we, de⟩ := wErr_bad hw
            have R : Hid (L1 ++ [([bComps, dig k, bWidth], 1)] = manyL bComps 16 cs.length ++ compL cs (k + 1)) := by show _ = _; rw [CE.out, we, de]; simp [at3]
            have a4 := A4.out
            clear we de CE
            by_cases hw1 : x.wd < 1
            · clear hw
              go_wp2_with (at_builtin; refine wpList_flaw w0 _ rfl (.tmp 80) (.tmp 84) rfl _ L1 (by rfl) G2.out.fl [bComps, dig k, bWidth] 1 _ rfl (by rfl) (by have := LL1.out; omega) ?_; intro v' w' HF HK)
              go_roundg (cs.length - (k + 1))
              case measure => omega
              case rel => exact ⟨k + 1, by omega, rfl, by go_num, HF.out.grown R.out⟩
            · have hw4 : (4 : Int) < x.wd := by omega
              clear hw
              go_wp2_with (at_builtin; refine wpList_flaw w0 _ rfl (.tmp 80) (.tmp 84) rfl _ L1 (by rfl) G2.out.fl [bComps, dig k, bWidth] 1 _ rfl (by rfl) (by have := LL1.out; omega) ?_; intro v' w' HF HK)
              go_roundg (cs.length - (k + 1))
              case measure => omega
              case rel => exact ⟨k + 1, by omega, rfl, by go_num, HF.out.grown R.out⟩
      · have hki : ¬ ((k : Int) < (cs.length : Int)) := by omega
        have hkl : k = cs.length := by omega
        obtain ⟨M1, hM1⟩ : ∃ M1, M1 = manyL bComps 16 cs.length ++ compL cs cs.length := ⟨_, rfl⟩
        have ML : Hid (M1.length ≤ 121) := by
          show _ ≤ _
          rw [hM1, List.length_append]
          have := manyL_len bComps 16 cs.length
          have := compL_len cs cs.length
          omega
        have HM := hid hM1
        rw [hkl, ← hM1] at HK
        have y0 := Below.seen HK.out.bel (Nat.le_refl _) X0.out
        have y1 := Below.seen HK.out.bel (Nat.le_refl _) X1.out
        clear hkl hM1
        go_upto_if 111 with fail
        go_cut [3] (fun s3 wx => FL w0 s3 (M1 ++ manyL bRes 8 rs.length) wx)
        case first =>
          by_cases hm : (8 : Int) < (rs.length : Int)
          · have R := hid (manyL_yes bRes 8 rs.length hm)
            go_wp2_with (at_builtin; refine wpList_flaw w0 _ rfl (.tmp 112) (.tmp 114) rfl _ M1 (by rfl) HK.out [bRes] 4 _ (joinB_one _).symm (by rfl) (by have := ML.out; omega) ?_; intro v' w' HF HK)
            go_meet
            exact HF.out.grown (by rw [R.out])
          · have R := hid (manyL_no bRes 8 rs.length hm)
            go_wp2_with fail
            go_meet
            exact HK.out.grown (by rw [R.out, List.append_nil])
        case rest =>
          have HF := hid hcut
          clear hcut HK y0 y1 hki hk hlt
          go_wp2_with fail
          go_loopg [3, 11, 12, 13, 14, 15, 16, 17] rs.length (fun gh s3 s11 _ _ _ _ _ _ wx => ∃ k : Nat, k ≤ rs.length ∧ gh = rs.length - k ∧ s11 = .int .i64 (k : Int) ∧ Hid (FL w0 s3 (M1 ++ manyL bRes 8 rs.length ++ resL cs rs k) wx))
          case atStart => exact ⟨0, Nat.zero_le _, rfl, rfl, HF.out.grown (by simp [resL])⟩
          case round =>
            rename World => wq
            obtain ⟨j, hj, rfl, rfl, HK⟩ := hrel
            have y0 := Below.seen HK.out.bel (Nat.le_refl _) X0.out
            have y1 := Below.seen HK.out.bel (Nat.le_refl _) X1.out
            by_cases hjl : j < rs.length
            · have hji : (j : Int) < (rs.length : Int) := by omega
              obtain ⟨x, hx⟩ := at_lt rs j hjl
              obtain ⟨b', o', rfl, hc⟩ : ∃ b o, a' = some ⟨b, o, none⟩ ∧ ∀ (j : Nat) (x : Rsc), rs[j]? = some x → w.cell? ⟨b, o + j * 2, none⟩ = some (.string x.s) ∧ w.cell? ⟨b, o + j * 2 + 1, none⟩ = some (.int .i64 x.n) := by
                rcases HL'.out with h | h
                · rw [h] at hx; simp at hx
                · exact h
              have BW := hid (B0.out.trans (HK.out.bel.mono B0.out.size))
              have c0 := Below.seen BW.out (Nat.le_refl _) (hc j x hx).1
              have RN := hid (resL_next (cs := cs) hx)
              obtain ⟨ls, hls⟩ : ∃ ls, ls = M1 ++ manyL bRes 8 rs.length ++ resL cs rs j := ⟨_, rfl⟩
              have LL : Hid (ls.length ≤ 170) := by
                show _ ≤ _
                rw [hls, List.length_append, List.length_append]
                have := ML.out
                have := manyL_len bRes 8 rs.length
                have := resL_len cs rs j
                omega
              have LN : Hid (M1 ++ manyL bRes 8 rs.length ++ resL cs rs (j + 1) = ls ++ at3 bRes j bName (nErr (seenTo (cs.map Cmp.s ++ (rs.take j).map Rsc.s)) x.s)) := by
                show _ = _
                rw [RN.out, hls, List.append_assoc _ (resL cs rs j)]
              rw [← hls] at HK
              have DC := hid (digits_any j (by omega) wq)
              have d2 : (dig j).size ≤ 2 := dig_size j (by omega)
              obtain ⟨p1, hp1⟩ : ∃ p1, p1 = (⟨#[114, 101, 115, 111, 117, 114, 99, 101, 115, 47]⟩ : ByteArray) ++ dig j := ⟨_, rfl⟩
              have s1 : p1.size ≤ 20 := by rw [hp1, ByteArray.size_append]; show 10 + _ ≤ _; omega
              have a1 := add_eq ⟨#[114, 101, 115, 111, 117, 114, 99, 101, 115, 47]⟩ (dig j) p1 (show 10 ≤ 1000 by decide) (by omega) hp1.symm
              have a2 := add_eq p1 ⟨#[47, 110, 97, 109, 101]⟩ (joinB [bRes, dig j, bName]) (by omega) (show 5 ≤ 1000 by decide) (by rw [hp1]; exact path_r (dig j))
              clear hp1 hc hx s1 d2 hls RN
              go_wp2_with fail
              refine DC.out.mono ?_
              rintro e w1 ⟨rfl, hb1⟩
              have K1 := hid (HK.out.later hb1)
              have y0 := Below.seen K1.out.bel (Nat.le_refl _) X0.out
              have y1 := Below.seen K1.out.bel (Nat.le_refl _) X1.out
              have BW1 := hid (B0.out.trans (K1.out.bel.mono B0.out.size))
              have FC := hid (rfind_any w1 _ (.slice (some ⟨b', o', none⟩) rs.length c') cs (HC.out.later BW1.out) (by omega) x.s)
              have FA := hid (firstI_all x.s (cs.map Cmp.s))
              obtain ⟨n1, b1, hv1, hb1', hn1⟩ := foundV_form (firstI x.s (cs.map Cmp.s) 0)
              rw [hv1] at FC
              have I1 : Hid (b1 = true ↔ x.s ∈ cs.map Cmp.s) := hb1'.trans FA.out
              clear hb1 DC HK c0 hv1 hb1' hn1 FA
              go_wp2_with fail
              refine FC.out.mono ?_
              rintro e w2 ⟨rfl, hb2⟩
              have K2 := hid (K1.out.later hb2)
              have y0 := Below.seen K2.out.bel (Nat.le_refl _) X0.out
              have y1 := Below.seen K2.out.bel (Nat.le_refl _) X1.out
              have BW2 := hid (B0.out.trans (K2.out.bel.mono B0.out.size))
              have RC := hid (rresource_any w2 (.slice a cs.length c) _ rs (HQ.out.later BW2.out) (by omega) x.s)
              have FM := hid (firstI_mem x.s (rs.map Rsc.s) 0 j)
              obtain ⟨n2, b2, hv2, hb2', hn2⟩ := foundV_form (firstI x.s (rs.map Rsc.s) 0)
              rw [hv2] at RC
              have I2 : Hid ((b2 = true ∧ n2 < (j : Int)) ↔ x.s ∈ (rs.take j).map Rsc.s) := by
                show _ ↔ _
                rw [List.map_take, ← FM.out]
                constructor
                · rintro ⟨h1, h2⟩
                  exact ⟨hb2'.1 h1, by rw [← hn2 h1]; omega⟩
                · rintro ⟨h1, h2⟩
                  have h3 := hb2'.2 h1
                  exact ⟨h3, by rw [hn2 h3]; omega⟩
              clear hb2 FC K1 hv2 hb2' hn2 FM
              go_wp2_with fail
              refine RC.out.mono ?_
              rintro e w3 ⟨rfl, hb3⟩
              have K3 := hid (K2.out.later hb3)
              have y0 := Below.seen K3.out.bel (Nat.le_refl _) X0.out
              have y1 := Below.seen K3.out.bel (Nat.le_refl _) X1.out
              have NC := hid (refname_any x.s w3)
              clear hb3 RC K2
              go_wp2_with fail
              refine NC.out.mono ?_
              rintro e w4 ⟨rfl, rfl⟩
              clear NC
              cases hi : isNm x.s with
              | false =>
                have R : Hid (ls ++ [([bRes, dig j, bName], 10)] = M1 ++ manyL bRes 8 rs.length ++ resL cs rs (j + 1)) := by show _ = _; rw [LN.out, nErr_bad _ hi]; rfl
                clear LN I1 I2
                go_wp2_with (at_builtin; refine wpList_flaw w0 _ rfl (.tmp 148) (.tmp 151) rfl _ ls (by rfl) K3.out [bRes, dig j, bName] 10 _ rfl (by rfl) (by have := LL.out; omega) ?_; intro v' w' HF HK)
                go_roundg (rs.length - (j + 1))
                case measure => omega
                case rel => exact ⟨j + 1, by omega, rfl, by go_num, HF.out.grown R.out⟩
              | true =>
                cases b1 with
                | true =>
                  have R : Hid (ls ++ [([bRes, dig j, bName], 9)] = M1 ++ manyL bRes 8 rs.length ++ resL cs rs (j + 1)) := by show _ = _; rw [LN.out, nErr_was hi (List.mem_append.2 (.inl (I1.out.1 rfl)))]; rfl
                  clear LN I1 I2
                  go_wp2_with (at_builtin; refine wpList_flaw w0 _ rfl (.tmp 162) (.tmp 165) rfl _ ls (by rfl) K3.out [bRes, dig j, bName] 9 _ rfl (by rfl) (by have := LL.out; omega) ?_; intro v' w' HF HK)
                  go_roundg (rs.length - (j + 1))
                  case measure => omega
                  case rel => exact ⟨j + 1, by omega, rfl, by go_num, HF.out.grown R.out⟩
                | false =>
                  have N1 : Hid (¬ x.s ∈ cs.map Cmp.s) := fun h => Bool.false_ne_true (I1.out.2 h)
                  cases b2 with
                  | false =>
                    have R : Hid (ls = M1 ++ manyL bRes 8 rs.length ++ resL cs rs (j + 1)) := by
                      show _ = _
                      rw [LN.out, nErr_new hi (fun h => (List.mem_append.1 h).elim N1.out (fun h => Bool.false_ne_true (I2.out.2 h).1))]; simp [at3]
                    clear LN I1 I2 N1
                    go_wp2_with fail
                    go_roundg (rs.length - (j + 1))
                    case measure => omega
                    case rel => exact ⟨j + 1, by omega, rfl, by go_num, K3.out.grown R.out⟩
                  | true =>
                    by_cases hnj : n2 < (j : Int)
                    · have R : Hid (ls ++ [([bRes, dig j, bName], 9)] = M1 ++ manyL bRes 8 rs.length ++ resL cs rs (j + 1)) := by show _ = _; rw [LN.out, nErr_was hi (List.mem_append.2 (.inr (I2.out.1 ⟨rfl, hnj⟩)))]; rfl
                      clear LN I1 I2 N1
                      go_wp2_with (at_builtin; refine wpList_flaw w0 _ rfl (.tmp 162) (.tmp 165) rfl _ ls (by rfl) K3.out [bRes, dig j, bName] 9 _ rfl (by rfl) (by have := LL.out; omega) ?_; intro v' w' HF HK)
                      go_roundg (rs.length - (j + 1))
                      case measure => omega
                      case rel => exact ⟨j + 1, by omega, rfl, by go_num, HF.out.grown R.out⟩
                    · have R : Hid (ls = M1 ++ manyL bRes 8 rs.length ++ resL cs rs (j + 1)) := by
                        show _ = _
                        rw [LN.out, nErr_new hi (fun h => (List.mem_append.1 h).elim N1.out (fun h => hnj (I2.out.2 h).2))]; simp [at3]
                      clear LN I1 I2 N1
                      go_wp2_with fail
                      go_roundg (rs.length - (j + 1))
                      case measure => omega
                      case rel => exact ⟨j + 1, by omega, rfl, by go_num, K3.out.grown R.out⟩
            · have hji : ¬ ((j : Int) < (rs.length : Int)) := by omega
              have R : Hid (M1 ++ manyL bRes 8 rs.length ++ resL cs rs j = checkL cs rs) := by
                show _ = _
                rw [HM.out, show j = rs.length by omega]
                simp [checkL]
              have FE := hid (HK.out.grown R.out)
              clear R HK
              go_wp2_with fail
              go_ret
              exact ⟨_, rfl, FE.out.own.mono B0.out.size, B0.out.trans (FE.out.bel.mono B0.out.size)⟩
end Go.Proofs.YtbfjijiakkopeaaDoor.Sc
