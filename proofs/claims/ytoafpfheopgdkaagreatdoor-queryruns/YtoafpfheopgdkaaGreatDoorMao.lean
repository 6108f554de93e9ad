/- Texts in one. -/
import Derived.Deep.RegionHeld3
import Derived.Test.YtoafpfheopgdkaaGreatDoorMan
namespace Go.Proofs.YtoafpfheopgdkaaGreatDoor.Qr
open Go.RowKit Go.Shelf Go.Maps
open Go.Proofs.YtoafpfheopgdkaaGreatDoor.At (St bAl cell_blk blk_seen)
open Go.Proofs.YtoafpfheopgdkaaGreatDoor.Bd (Bg Prs IRow)
open Go.Proofs.YtoafpfheopgdkaaGreatDoor.Qu (J64 Bei)
set_option maxHeartbeats 1600000 in
set_option maxRecDepth 100000 in
theorem count_zz {xs : List Bei} {m : Nat} {w w' : World} {sb bb : Nat} (hL : Ld xs m w w' sb bb) (hx : ∀ x ∈ xs, x.wf) (hm : m ≤ xs.length) (h60 : m ≤ 60) (a b c : Nat) (ha : a < 4294967296) (hb : b < 4294967296) (hc : c < 4294967296) (fr : Int) (hfr : J64 fr) :
    Calls Tryz.prog 13 #[.pointer (some ⟨sb, 0, none⟩), .pointer (some ⟨bb, 0, none⟩), .agg #[.int .u32 (a : Int), .int .u32 (b : Int), .int .u32 (c : Int)], .int .i64 fr] w' fun e w2 => e = .returned (.int .i64 ((zz xs a b c fr m).length : Int)) ∧ Below w'.heap.size w' w2 := by
  obtain ⟨w1, hw1⟩ : ∃ w1, w1 = w'.alloc (.cells #[.int .u32 (a : Int), .int .u32 (b : Int), .int .u32 (c : Int)] 26) := ⟨_, rfl⟩
  have b1 : Below w'.heap.size w' w1 := by rw [hw1]; exact bAl _ _
  have r1 : w1.heap[w'.heap.size]? = some (.cells #[.int .u32 (a : Int), .int .u32 (b : Int), .int .u32 (c : Int)] 26 (0, 0)) := by rw [hw1]; exact heap_alloc_new w' _
  have c0 : w1.cell? ⟨w'.heap.size, 0, none⟩ = some (.int .u32 (a : Int)) := cell_blk r1 rfl
  have c1 : w1.cell? ⟨w'.heap.size, 1, none⟩ = some (.int .u32 (b : Int)) := cell_blk r1 rfl
  have c2 : w1.cell? ⟨w'.heap.size, 2, none⟩ = some (.int .u32 (c : Int)) := cell_blk r1 rfl
  have R := hid (run_zz (hL.later b1) hx hm a b c ha hb hc fr hfr)
  have hl := zz_len xs a b c fr m
  have hli : ((zz xs a b c fr m).length : Int) ≤ 60 := by omega
  have B1 := hid b1
  have HW := hid hw1
  clear r1 b1 hw1 hL
  go_enter Tryz.func13, Tryz.ntmps13
  go_upto_region 1 with fail
  rw [← HW.out]
  clear HW
  go_wp2_with fail
  refine R.out.mono ?_
  rintro e w2 ⟨va, vc, rfl, -, hb2⟩
  have B2 := hid (B1.out.trans (hb2.mono B1.out.size))
  clear R hb2
  go_wp2_with fail
  go_ret
  exact ⟨rfl, B2.out⟩
set_option maxHeartbeats 1600000 in
set_option maxRecDepth 100000 in
theorem first_zz {xs : List Bei} {m : Nat} {w w' : World} {sb bb : Nat} (hL : Ld xs m w w' sb bb) (hx : ∀ x ∈ xs, x.wf) (hm : m ≤ xs.length) (h60 : m ≤ 60) (a b c : Nat) (ha : a < 4294967296) (hb : b < 4294967296) (hc : c < 4294967296) (fr : Int) (hfr : J64 fr) :
    Calls Tryz.prog 11 #[.pointer (some ⟨sb, 0, none⟩), .pointer (some ⟨bb, 0, none⟩), .agg #[.int .u32 (a : Int), .int .u32 (b : Int), .int .u32 (c : Int)], .int .i64 fr] w' fun e w2 => ∃ n z, e = .returned (.tuple #[.int .i64 n, .bool z]) ∧ Hid (zz xs a b c fr m = [] ∧ n = 0 ∧ z = false ∨ (zz xs a b c fr m)[0]? = some n ∧ z = true) ∧ Below w'.heap.size w' w2 := by
  obtain ⟨w1, hw1⟩ : ∃ w1, w1 = w'.alloc (.cells #[.int .u32 (a : Int), .int .u32 (b : Int), .int .u32 (c : Int)] 26) := ⟨_, rfl⟩
  have b1 : Below w'.heap.size w' w1 := by rw [hw1]; exact bAl _ _
  have r1 : w1.heap[w'.heap.size]? = some (.cells #[.int .u32 (a : Int), .int .u32 (b : Int), .int .u32 (c : Int)] 26 (0, 0)) := by rw [hw1]; exact heap_alloc_new w' _
  have c0 : w1.cell? ⟨w'.heap.size, 0, none⟩ = some (.int .u32 (a : Int)) := cell_blk r1 rfl
  have c1 : w1.cell? ⟨w'.heap.size, 1, none⟩ = some (.int .u32 (b : Int)) := cell_blk r1 rfl
  have c2 : w1.cell? ⟨w'.heap.size, 2, none⟩ = some (.int .u32 (c : Int)) := cell_blk r1 rfl
  have R := hid (run_zz (hL.later b1) hx hm a b c ha hb hc fr hfr)
  have hl := zz_len xs a b c fr m
  generalize zz xs a b c fr m = Z at *
  have hli : (Z.length : Int) ≤ 60 := by omega
  have B1 := hid b1
  have HW := hid hw1
  clear r1 b1 hw1 hL
  go_enter Tryz.func11, Tryz.ntmps11
  go_upto_region 1 with fail
  rw [← HW.out]
  clear HW
  go_wp2_with fail
  refine R.out.mono ?_
  rintro e w2 ⟨va, vc, rfl, hI, hb2⟩
  have B2 := hid (B1.out.trans (hb2.mono B1.out.size))
  clear R hb2 c0 c1 c2
  by_cases hz : Z.length = 0
  · have HZ := hid (List.length_eq_zero_iff.1 hz)
    clear hI
    go_wp2_with fail
    go_ret2
    exact ⟨_, _, rfl, hid (.inl ⟨HZ.out, rfl, rfl⟩), B2.out⟩
  · have hp : 0 < Z.length := by omega
    obtain ⟨x, h0⟩ := at_lt Z 0 hp
    obtain ⟨vb, vo, rfl, d⟩ := irow_at hI h0
    have d0 : w2.cell? ⟨vb, vo, none⟩ = some (.int .i64 x) := d 0 x h0
    have hpi : (0 : Int) < (Z.length : Int) := by omega
    have hne : (Z.length == 0) = false := by rw [beq_eq_false_iff_ne]; exact hz
    have H0 := hid h0
    clear d hI h0
    go_wp2_with fail
    go_ret2
    exact ⟨_, _, rfl, hid (.inr ⟨H0.out, rfl⟩), B2.out⟩
end Go.Proofs.YtoafpfheopgdkaaGreatDoor.Qr
namespace Go.Proofs.YtoafpfheopgdkaaGreatDoor.Qr
open Go.RowKit Go.Shelf Go.Maps
open Go.Proofs.YtoafpfheopgdkaaGreatDoor.At (St bAl cell_blk blk_seen mtB)
open Go.Proofs.YtoafpfheopgdkaaGreatDoor.Ro (Ents)
open Go.Proofs.YtoafpfheopgdkaaGreatDoor.Rs (SD Prt)
open Go.Proofs.YtoafpfheopgdkaaGreatDoor.So (al Run matched)
open Go.Proofs.YtoafpfheopgdkaaGreatDoor.Bd (Bg Prs IRow)
open Go.Proofs.YtoafpfheopgdkaaGreatDoor.Qu (J64 Bei)
theorem nums_nil (B : Nat) (W : World) : Nums B W (.slice none 0 0) [] := World.ownsRow_nil _ _ _ _
set_option maxHeartbeats 1600000 in
set_option maxRecDepth 100000 in
theorem run_nos (w : World) (bb a b c : Nat) (fr : Int) :
    Calls Tryz.prog 10 #[.pointer none, .pointer (some ⟨bb, 0, none⟩), .agg #[.int .u32 (a : Int), .int .u32 (b : Int), .int .u32 (c : Int)], .int .i64 fr] w fun e w2 => e = .returned (.slice none 0 0) ∧ Below w.heap.size w w2 := by
  obtain ⟨w1, hw1⟩ : ∃ w1, w1 = w.alloc (.cells #[.int .u32 (a : Int), .int .u32 (b : Int), .int .u32 (c : Int)] 26) := ⟨_, rfl⟩
  have b1 : Below w.heap.size w w1 := by rw [hw1]; exact bAl _ _
  have r1 : w1.heap[w.heap.size]? = some (.cells #[.int .u32 (a : Int), .int .u32 (b : Int), .int .u32 (c : Int)] 26 (0, 0)) := by rw [hw1]; exact heap_alloc_new w _
  have x0 : w1.cell? ⟨w.heap.size, 0, none⟩ = some (.int .u32 (a : Int)) := cell_blk r1 rfl
  have x1 : w1.cell? ⟨w.heap.size, 1, none⟩ = some (.int .u32 (b : Int)) := cell_blk r1 rfl
  have SM := hid (So.smatch_nil (a : Int) (b : Int) w1)
  have B1 := hid b1
  have HW := hid hw1
  clear r1 b1 hw1
  go_enter Tryz.func10, Tryz.ntmps10
  go_upto_region 1 with fail
  rw [← HW.out]
  clear HW
  go_wp2_with fail
  refine SM.out.mono ?_
  rintro e w2 ⟨rfl, hb2⟩
  have B2 := hid (B1.out.trans (hb2.mono B1.out.size))
  clear SM hb2 x0 x1
  go_wp2_with fail
  go_loopg [9, 11, 12, 13, 14, 15, 23] 0 (fun gh v _ _ _ _ _ q wr => gh = 0 ∧ q = .int .i64 0 ∧ v = .slice none 0 0 ∧ wr = w2)
  case atStart => exact ⟨rfl, rfl, rfl, rfl⟩
  case round =>
    obtain ⟨rfl, rfl, rfl, hwr⟩ := hrel
    obtain rfl := hwr.symm
    have NN := hid (nums_nil w2.heap.size w2)
    have SO := hid (isort_any NN.out (by simp))
    go_wp2_with fail
    refine SO.out.mono ?_
    rintro e w9 ⟨rfl, o9, s9⟩
    have B9 := hid (B2.out.trans ((bel_num (Below.refl _ _) NN.out s9).mono B2.out.size))
    clear SO o9 s9
    go_wp2_with fail
    go_ret
    exact ⟨rfl, B9.out⟩
set_option maxHeartbeats 1600000 in
set_option maxRecDepth 100000 in
theorem id_nil (W : World) (i g : Int) : Calls Tryz.prog 27 #[.pointer none, .agg #[.int .i64 i, .int .i64 g]] W fun e W' => e = .returned (.tuple #[.int .i64 0, .bool false]) ∧ Below W.heap.size W W' := by
  have b1 := hid (bAl W (.cells #[.int .i64 i, .int .i64 g] 58))
  go_enter Tryz.func27, Tryz.ntmps27
  go_wp2_with fail
  go_ret2
  exact ⟨rfl, b1.out⟩
set_option maxHeartbeats 3200000 in
set_option maxRecDepth 100000 in
theorem run_nob {W1 w : World} {sb : Nat} {s : SD} {t bb ob nb : Nat} {n : Int} {l : Prs} (h : Jn W1 sb s t bb ob nb n l w) (a b c : Nat) (ha : a < 4294967296) (hb : b < 4294967296) (fr : Int) (hm : (matched s a b).length ≤ 100) :
    Calls Tryz.prog 10 #[.pointer (some ⟨sb, 0, none⟩), .pointer none, .agg #[.int .u32 (a : Int), .int .u32 (b : Int), .int .u32 (c : Int)], .int .i64 fr] w fun e w2 => e = .returned (.slice none 0 0) ∧ Below w.heap.size w w2 := by
  obtain ⟨w1, hw1⟩ : ∃ w1, w1 = w.alloc (.cells #[.int .u32 (a : Int), .int .u32 (b : Int), .int .u32 (c : Int)] 26) := ⟨_, rfl⟩
  have b1 : Below w.heap.size w w1 := by rw [hw1]; exact bAl _ _
  have R1 : Hid (w1.heap[w.heap.size]? = some (.cells #[.int .u32 (a : Int), .int .u32 (b : Int), .int .u32 (c : Int)] 26 (0, 0))) := by rw [hw1]; exact heap_alloc_new w _
  have H1 := hid (h.later b1)
  have SM : Hid (Calls Tryz.prog 26 #[.pointer (some ⟨sb, 0, none⟩), .int .u32 (a : Int), .int .u32 (b : Int)] w1 fun e W' => ∃ v, e = .returned v ∧ Ents w1.heap.size W' v (matched s a b) ∧ Below w1.heap.size w1 W') := by
    obtain ⟨o1, o2, o3, q⟩ := H1.out.aw
    obtain ⟨cv, e1, -, -⟩ := q.ex
    exact So.smatch_any e1 a b ha hb
  have x0 : w1.cell? ⟨w.heap.size, 0, none⟩ = some (.int .u32 (a : Int)) := cell_blk R1.out rfl
  have x1 : w1.cell? ⟨w.heap.size, 1, none⟩ = some (.int .u32 (b : Int)) := cell_blk R1.out rfl
  have HW1 := hid hw1
  have B1 := hid b1
  clear hw1 b1 h
  go_enter Tryz.func10, Tryz.ntmps10
  go_upto_region 1 with fail
  rw [← HW1.out]
  go_wp2_with fail
  refine SM.out.mono ?_
  rintro e w2 ⟨mv, rfl, he2, b2⟩
  obtain ⟨ma, mc, rfl⟩ := he2.slice
  generalize matched s a b = M at *
  have E2 := hid he2
  have B2 := hid (B1.out.trans (b2.mono B1.out.size))
  have hmi : (M.length : Int) ≤ 100 := by omega
  clear he2 b2 SM x0 x1 R1 H1 B1 HW1
  go_wp2_with fail
  go_loopg [9, 11, 12, 13, 14, 15, 23] M.length (fun gh v _ _ _ _ _ q wr => ∃ k : Nat, k ≤ M.length ∧ gh = M.length - k ∧ q = .int .i64 (k : Int) ∧ v = .slice none 0 0 ∧ Hid (Below w2.heap.size w2 wr))
  case atStart => exact ⟨0, Nat.zero_le _, rfl, rfl, rfl, Below.refl _ _⟩
  case round =>
    rename World => wr
    obtain ⟨k, hk, rfl, rfl, rfl, HB⟩ := hrel
    by_cases hlt : k < M.length
    · have hki : (k : Int) < (M.length : Int) := by omega
      obtain ⟨⟨i, g⟩, hx⟩ := at_lt M k hlt
      obtain ⟨gg, rfl, -, -⟩ := (E2.out.later HB.out).some (by omega)
      obtain ⟨d0, d1⟩ := (E2.out.later HB.out).cell hx
      obtain ⟨w4, hw4⟩ : ∃ w4, w4 = wr.alloc (.cells #[.int .i64 (i : Int), .int .i64 (g : Int)] 58) := ⟨_, rfl⟩
      have b4 : Below wr.heap.size wr w4 := by rw [hw4]; exact bAl _ _
      have R4 : Hid (w4.heap[wr.heap.size]? = some (.cells #[.int .i64 (i : Int), .int .i64 (g : Int)] 58 (0, 0))) := by rw [hw4]; exact heap_alloc_new wr _
      have B4 := hid (HB.out.trans (b4.mono HB.out.size))
      have y0 : w4.cell? ⟨wr.heap.size, 0, none⟩ = some (.int .i64 (i : Int)) := cell_blk R4.out rfl
      have y1 : w4.cell? ⟨wr.heap.size, 1, none⟩ = some (.int .i64 (g : Int)) := cell_blk R4.out rfl
      have IDC := hid (id_nil w4 (i : Int) (g : Int))
      have HW4 := hid hw4
      clear hx hw4 b4 HB
      go_upto_region 5 with fail
      rw [← HW4.out]
      clear HW4 d0 d1
      generalize wr.heap.size = eb at *
      go_wp2_with fail
      refine IDC.out.mono ?_
      rintro e w5 ⟨rfl, b5⟩
      have B5 := hid (B4.out.trans (b5.mono B4.out.size))
      clear IDC b5 y0 y1 R4
      go_wp2_with fail
      go_roundg (M.length - (k + 1))
      case measure => omega
      case rel => exact ⟨k + 1, by omega, rfl, by go_num, rfl, B5.out⟩
    · have hki : ¬ ((k : Int) < (M.length : Int)) := by omega
      have NN := hid (nums_nil w2.heap.size wr)
      have SO := hid (isort_any NN.out (by simp))
      go_wp2_with fail
      refine SO.out.mono ?_
      rintro e w9 ⟨rfl, o9, s9⟩
      have B9 := hid (B2.out.trans ((bel_num HB.out NN.out s9).mono B2.out.size))
      clear SO o9 s9
      go_wp2_with fail
      go_ret
      exact ⟨rfl, B9.out⟩
end Go.Proofs.YtoafpfheopgdkaaGreatDoor.Qr
namespace Go.Proofs.YtoafpfheopgdkaaGreatDoor.Qr
open Go.RowKit Go.Shelf Go.Maps
open Go.Proofs.YtoafpfheopgdkaaGreatDoor.At (St bAl cell_blk blk_seen)
open Go.Proofs.YtoafpfheopgdkaaGreatDoor.Rs (SD Prt Prts PRow)
open Go.Proofs.YtoafpfheopgdkaaGreatDoor.Bd (Bg Prs IRow)
open Go.Proofs.YtoafpfheopgdkaaGreatDoor.Qu (J64 Bei bL bL_len meansB)
theorem zz_next (xs : List Bei) (a b c : Nat) (fr : Int) (k : Nat) : zz xs a b c fr (k + 1) = zz xs a b c fr k ++ (wn xs a b c fr k).toList := by
  unfold zz
  rw [List.range_succ, List.filterMap_append]
  congr 1
theorem nums_new (W : World) : Nums W.heap.size (W.alloc (.cells #[] 3)) (.slice (some ⟨W.heap.size, 0, none⟩) 0 0) [] :=
  ⟨rfl, .inr ⟨W.heap.size, 0, #[], rfl, Nat.le_refl _, heap_alloc_new W _, Nat.le_refl _, by unfold maxLen; omega, rfl, rfl⟩⟩
set_option maxHeartbeats 12800000 in
set_option maxRecDepth 100000 in
theorem runs_law (w : World) (Ad : Nat → Addr) (hE : Env w Ad) (v : Value) (xs : List Bei) (hB : BRow w v xs) (a b c : Nat) (ha : a < 4294967296) (hb : b < 4294967296) (hc : c < 4294967296) (fr : Int) (hfr : J64 fr) :
    Calls Tryz.prog 3 #[v, .agg #[.int .u32 (a : Int), .int .u32 (b : Int), .int .u32 (c : Int)], .int .i64 fr] w fun e w' => e = .returned (.bool true) ∧ Below w.heap.size w w' := by
  obtain ⟨w1, hw1⟩ : ∃ w1, w1 = w.alloc (.cells #[.int .u32 (a : Int), .int .u32 (b : Int), .int .u32 (c : Int)] 26) := ⟨_, rfl⟩
  have b1 : Below w.heap.size w w1 := by rw [hw1]; exact bAl _ _
  have R1 : Hid (w1.heap[w.heap.size]? = some (.cells #[.int .u32 (a : Int), .int .u32 (b : Int), .int .u32 (c : Int)] 26 (0, 0))) := by rw [hw1]; exact heap_alloc_new w _
  have HW1 := hid hw1
  have B1 := hid b1
  have E1 := hid (hE.later b1)
  have HB0 := hid (hB.later b1)
  have AW := hid (Qu.awake_any Ad w1 E1.out)
  obtain ⟨-, la, lc, rfl, -⟩ := hB
  clear hw1 b1 hE
  go_enter Tryz.func3, Tryz.ntmps3
  go_upto_region 1 with fail
  rw [← HW1.out]
  go_wp2_with fail
  refine AW.out.mono ?_
  rintro e w2 ⟨rfl, b2⟩
  have C2 := hid b2
  clear AW b2 HW1
  obtain ⟨m, hm⟩ : ∃ m, m = min xs.length 60 := ⟨_, rfl⟩
  have LA := hid (laid_any w2 Ad (E1.out.later C2.out).eight _ xs (HB0.out.later C2.out))
  rw [← hm] at LA
  have HM : Hid (m = min xs.length 60) := hid hm
  clear hm
  go_wp2_with fail
  refine LA.out.mono ?_
  rintro e w3 ⟨sb, bb, rfl, hL3, b3⟩
  have L3 := hid hL3
  have C3 := hid (C2.out.trans (b3.mono C2.out.size))
  clear LA hL3 b3
  obtain ⟨w4, hw4⟩ : ∃ w4, w4 = w3.alloc (.cells #[] 3) := ⟨_, rfl⟩
  have N4 : Hid (Nums w3.heap.size w4 (.slice (some ⟨w3.heap.size, 0, none⟩) 0 0) []) := by rw [hw4]; exact nums_new w3
  have B4 : Hid (Below w3.heap.size w3 w4) := by rw [hw4]; exact bAl _ _
  have HW4 := hid hw4
  clear hw4
  go_upto_block 0 with fail
  rw [← HW4.out]
  clear HW4
  go_cut [9, 10, 11] from 25 to 54 (fun v _ _ wx => ∃ va vc, v = .slice va (zz xs a b c fr m).length vc ∧ Hid (Nums w3.heap.size wx (.slice va (zz xs a b c fr m).length vc) (zz xs a b c fr m)) ∧ Hid (Below w3.heap.size w3 wx))
  case first =>
    go_wp2_with fail
    go_loopg [9, 10, 11] 60 (fun gh v n i wr => ∃ k : Nat, k ≤ min xs.length 60 ∧ gh = 60 - k ∧ i = .int .i64 (k : Int) ∧ n = .int .i64 ((gvN (nmF xs) k : Nat) : Int) ∧ Hid (Nums w3.heap.size wr v (zz xs a b c fr k)) ∧ Hid (Below w3.heap.size w3 wr))
    case atStart => exact ⟨0, Nat.zero_le _, rfl, rfl, rfl, N4, B4⟩
    case round =>
      rename World => wr
      obtain ⟨k, hk, rfl, rfl, rfl, HN, HB⟩ := hrel
      obtain ⟨va, vc, rfl⟩ := own_slice HN.out
      have BR := hid (C3.out.trans (HB.out.mono C3.out.size))
      by_cases h1 : k < xs.length
      · have h1i : (k : Int) < (xs.length : Int) := by omega
        by_cases h2 : k < 60
        · have h2i : (k : Int) < 60 := by omega
          obtain ⟨x, hx⟩ := at_lt xs k h1
          obtain ⟨b', o, rfl, dd⟩ : ∃ b o, la = some ⟨b, o, none⟩ ∧ ∀ W', Below w1.heap.size w1 W' → ∀ i, i < 10 → W'.cell? ⟨b, o + k * 10 + i, none⟩ = x.arr[i]? := by
            obtain ⟨-, a', c', hv, hl⟩ := HB0.out
            obtain ⟨rfl, rfl⟩ : la = a' ∧ lc = c' := by simpa using hv
            rcases hl with h | ⟨b, o, h4, h5⟩
            · rw [h] at h1; simp at h1
            · refine ⟨b, o, h4, fun W' hb i hi => ?_⟩
              have q := h5 k x hx i hi
              obtain ⟨u, hu⟩ : ∃ u, x.arr[i]? = some u := ⟨x.arr[i]'(by simp [Bei.arr]; omega), Array.getElem?_eq_getElem _⟩
              rw [hu] at q ⊢
              exact At.seen hb (Nat.le_refl _) q
          have NM := hid (nm_at hx)
          have PA := hid (pa_at hx)
          have ZN := hid (zz_next xs a b c fr k)
          have hgl := gvN_le (nmF xs) k
          have hgli : ((gvN (nmF xs) k : Nat) : Int) ≤ 60 := by omega
          have hzl := zz_len xs a b c fr k
          have d9 : wr.cell? ⟨b', o + k * 10 + 9, none⟩ = some (.bool x.nm) := dd wr BR.out 9 (by decide)
          cases hnm : x.nm with
          | false =>
            rw [hnm] at d9 NM
            have e1 : Hid (gvN (nmF xs) (k + 1) = gvN (nmF xs) k) := by show _ = _; simp [gvN, NM.out]
            have e2 : Hid (zz xs a b c fr (k + 1) = zz xs a b c fr k) := by
              show _ = _
              rw [ZN.out]; unfold wn; rw [NM.out]; simp
            clear hnm hx dd
            go_wp2_with fail
            go_roundg (60 - (k + 1))
            case measure => omega
            case rel => exact ⟨k + 1, by omega, rfl, by go_num, by rw [e1.out], by rw [e2.out]; exact HN, HB⟩
          | true =>
            rw [hnm] at NM
            have DD : Hid (∀ W', Below wr.heap.size wr W' → (W'.cell? ⟨w.heap.size, 0, none⟩ = some (.int .u32 (a : Int)) ∧ W'.cell? ⟨w.heap.size, 1, none⟩ = some (.int .u32 (b : Int)) ∧ W'.cell? ⟨w.heap.size, 2, none⟩ = some (.int .u32 (c : Int)) ∧ W'.cell? ⟨b', o + k * 10, none⟩ = some (.int .u32 (x.m : Int)) ∧ W'.cell? ⟨b', o + k * 10 + 1, none⟩ = some (.int .i64 x.t0) ∧ W'.cell? ⟨b', o + k * 10 + 2, none⟩ = some (.int .i64 x.t1) ∧ W'.cell? ⟨b', o + k * 10 + 3, none⟩ = some (.int .i64 x.t2) ∧ W'.cell? ⟨b', o + k * 10 + 4, none⟩ = some (.int .i64 x.t3) ∧ W'.cell? ⟨b', o + k * 10 + 5, none⟩ = some (.int .i64 x.t4) ∧ W'.cell? ⟨b', o + k * 10 + 6, none⟩ = some (.int .i64 x.t5) ∧ W'.cell? ⟨b', o + k * 10 + 7, none⟩ = some (.int .i64 x.t6) ∧ W'.cell? ⟨b', o + k * 10 + 8, none⟩ = some (.int .i64 x.t7) ∧ W'.cell? ⟨b', o + k * 10 + 9, none⟩ = some (.bool x.nm))) := fun W' h => by
              have q := BR.out.trans (h.mono BR.out.size)
              exact ⟨At.seen q (Nat.le_refl _) (cell_blk R1.out rfl), At.seen q (Nat.le_refl _) (cell_blk R1.out rfl), At.seen q (Nat.le_refl _) (cell_blk R1.out rfl), dd W' q 0 (by decide), dd W' q 1 (by decide), dd W' q 2 (by decide), dd W' q 3 (by decide), dd W' q 4 (by decide), dd W' q 5 (by decide), dd W' q 6 (by decide), dd W' q 7 (by decide), dd W' q 8 (by decide), dd W' q 9 (by decide)⟩
            have PC : Hid (∀ W', Below wr.heap.size wr W' → Calls Tryz.prog 9 #[x.val] W' fun e w2 => ∃ ua uc, e = .returned (.slice ua (bL x 8).length uc) ∧ Hid (PRow w2 (.slice ua (bL x 8).length uc) (bL x 8)) ∧ Below wr.heap.size wr w2) := fun W' h => (Qu.bparts_any W' x).mono fun _ _ ⟨u, q1, q2, q3⟩ => by
              have q4 := q2.row
              obtain ⟨ua, uc, rfl⟩ := q2.slice
              exact ⟨ua, uc, q1, q4, h.trans (q3.mono h.size)⟩
            have MC : Hid (∀ W' ua uc, Hid (PRow W' (.slice ua (bL x 8).length uc) (bL x 8)) → Below wr.heap.size wr W' → Calls Tryz.prog 8 #[.agg #[.int .u32 (a : Int), .int .u32 (b : Int), .int .u32 (c : Int)], .int .i64 fr, .slice ua (bL x 8).length uc] W' fun e w2 => e = .returned (.bool (meansB a b c fr (bL x 8))) ∧ Below wr.heap.size wr w2) := fun W' ua uc q h => (Qu.rmeans_any a b c fr hfr q.out (by have := bL_len x 8; omega)).mono fun _ _ ⟨q1, q2⟩ => ⟨q1, h.trans (q2.mono h.size)⟩
            unfold Bei.val at PC
            have e1 : Hid (gvN (nmF xs) (k + 1) = gvN (nmF xs) k + 1) := by show _ = _; simp [gvN, NM.out]
            have e2 : Hid (zz xs a b c fr (k + 1) = zz xs a b c fr k ++ (if meansB a b c fr (bL x 8) = true then [((gvN (nmF xs) k : Nat) : Int) + 1] else [])) := by
              show _ = _
              rw [ZN.out]; unfold wn; rw [NM.out, PA.out]; split <;> simp
            rw [hnm] at d9
            clear hnm hx dd
            generalize meansB a b c fr (bL x 8) = z at *
            go_upto_region 13 with fail
            clear d9
            have hd0 := Below.refl wr.heap.size wr
            have hd1 : Below wr.heap.size wr wr.drew := (Below.refl _ _).drew
            obtain ⟨k0, k1, k2, d0, d1, d2, d3, d4, d5, d6, d7, d8, d9⟩ := DD.out wr hd0
            go_region_held3 (fun W' => W'.cell? ⟨w.heap.size, 0, none⟩ = some (.int .u32 (a : Int)) ∧ W'.cell? ⟨w.heap.size, 1, none⟩ = some (.int .u32 (b : Int)) ∧ W'.cell? ⟨w.heap.size, 2, none⟩ = some (.int .u32 (c : Int)) ∧ W'.cell? ⟨b', o + k * 10, none⟩ = some (.int .u32 (x.m : Int)) ∧ W'.cell? ⟨b', o + k * 10 + 1, none⟩ = some (.int .i64 x.t0) ∧ W'.cell? ⟨b', o + k * 10 + 2, none⟩ = some (.int .i64 x.t1) ∧ W'.cell? ⟨b', o + k * 10 + 3, none⟩ = some (.int .i64 x.t2) ∧ W'.cell? ⟨b', o + k * 10 + 4, none⟩ = some (.int .i64 x.t3) ∧ W'.cell? ⟨b', o + k * 10 + 5, none⟩ = some (.int .i64 x.t4) ∧ W'.cell? ⟨b', o + k * 10 + 6, none⟩ = some (.int .i64 x.t5) ∧ W'.cell? ⟨b', o + k * 10 + 7, none⟩ = some (.int .i64 x.t6) ∧ W'.cell? ⟨b', o + k * 10 + 8, none⟩ = some (.int .i64 x.t7) ∧ W'.cell? ⟨b', o + k * 10 + 9, none⟩ = some (.bool x.nm))
              (exact DD.out _ (by assumption))
              (first
                | (go_at_call 9; refine (PC.out _ (by assumption)).mono ?_; rintro e w5 ⟨ua, uc, rfl, P5, hd5⟩)
                | (go_at_call 8; refine (MC.out w5 ua uc P5 hd5).mono ?_; rintro e w6 ⟨rfl, hd6⟩))
            have B6 := hid (HB.out.trans (hd6.mono HB.out.size))
            have N6 := hid (HN.out.later hd6)
            have hB6 : w3.heap.size ≤ w6.heap.size := B6.out.size
            clear PC MC DD k0 k1 k2 d0 d1 d2 d3 d4 d5 d6 d7 d8 d9 hd0 hd1 hd5 hd6 P5 HN
            cases z with
            | false =>
              go_wp2_with fail
              go_roundg (60 - (k + 1))
              case measure => omega
              case rel => exact ⟨k + 1, by omega, rfl, by go_num, by rw [e1.out]; go_num, by rw [e2.out]; simpa using N6, B6⟩
            | true =>
              have hul : (zz xs a b c fr k).length ≤ 1000 := by omega
              go_wp2_with (at_builtin; refine wpList_numI (y := ((gvN (nmF xs) k : Nat) : Int) + 1) rfl _ _ rfl N6.out hul (by exact hB6) rfl rfl ?_; intro v8 w8 H8 S8)
              have B8 := hid (bel_num B6.out N6.out S8.out)
              go_roundg (60 - (k + 1))
              case measure => omega
              case rel => exact ⟨k + 1, by omega, rfl, by go_num, by rw [e1.out]; go_num, by rw [e2.out]; simpa using H8, B8⟩
        · have h2i : ¬ ((k : Int) < 60) := by omega
          obtain rfl : k = m := by have := HM.out; omega
          go_wp2_with fail
          go_meet
          exact ⟨va, vc, rfl, HN, HB⟩
      · have h1i : ¬ ((k : Int) < (xs.length : Int)) := by omega
        obtain rfl : k = m := by have := HM.out; omega
        go_wp2_with fail
        go_meet
        exact ⟨va, vc, rfl, HN, HB⟩
  case rest =>
    clear N4 B4
    rename World => wx
    obtain ⟨va, vc, rfl, HN, HB⟩ := hcut
    have hx0 := hid HB0.out.1
    have hm1 : m ≤ xs.length := by have := HM.out; omega
    have hm2 : m ≤ 60 := by have := HM.out; omega
    have WI := hid (Bd.irow_of HN.out)
    have hzl := zz_len xs a b c fr m
    have RN : Hid (∀ W', Below w3.heap.size w3 W' → Calls Tryz.prog 10 #[.pointer (some ⟨sb, 0, none⟩), .pointer (some ⟨bb, 0, none⟩), .agg #[.int .u32 (a : Int), .int .u32 (b : Int), .int .u32 (c : Int)], .int .i64 fr] W' fun e w2 => ∃ ga gc, e = .returned (.slice ga (zz xs a b c fr m).length gc) ∧ Hid (IRow w2 (.slice ga (zz xs a b c fr m).length gc) (zz xs a b c fr m)) ∧ Below W'.heap.size W' w2) := fun W' h => run_zz (L3.out.later h) hx0.out hm1 a b c ha hb hc fr hfr
    have FN : Hid (∀ W', Below w3.heap.size w3 W' → Calls Tryz.prog 11 #[.pointer (some ⟨sb, 0, none⟩), .pointer (some ⟨bb, 0, none⟩), .agg #[.int .u32 (a : Int), .int .u32 (b : Int), .int .u32 (c : Int)], .int .i64 fr] W' fun e w2 => ∃ n z, e = .returned (.tuple #[.int .i64 n, .bool z]) ∧ Hid (zz xs a b c fr m = [] ∧ n = 0 ∧ z = false ∨ (zz xs a b c fr m)[0]? = some n ∧ z = true) ∧ Below W'.heap.size W' w2) := fun W' h => first_zz (L3.out.later h) hx0.out hm1 hm2 a b c ha hb hc fr hfr
    have CN : Hid (∀ W', Below w3.heap.size w3 W' → Calls Tryz.prog 13 #[.pointer (some ⟨sb, 0, none⟩), .pointer (some ⟨bb, 0, none⟩), .agg #[.int .u32 (a : Int), .int .u32 (b : Int), .int .u32 (c : Int)], .int .i64 fr] W' fun e w2 => e = .returned (.int .i64 ((zz xs a b c fr m).length : Int)) ∧ Below w3.heap.size w3 w2) := fun W' h => (count_zz (L3.out.later h) hx0.out hm1 hm2 a b c ha hb hc fr hfr).mono fun _ _ ⟨q1, q2⟩ => ⟨q1, h.trans (q2.mono h.size)⟩
    have N1 : Hid (∀ W', Below w3.heap.size w3 W' → Calls Tryz.prog 10 #[.pointer none, .pointer (some ⟨bb, 0, none⟩), .agg #[.int .u32 (a : Int), .int .u32 (b : Int), .int .u32 (c : Int)], .int .i64 fr] W' fun e w2 => e = .returned (.slice none 0 0) ∧ Below w3.heap.size w3 w2) := fun W' h => (run_nos W' bb a b c fr).mono fun _ _ ⟨q1, q2⟩ => ⟨q1, h.trans (q2.mono h.size)⟩
    have N2 : Hid (∀ W', Below w3.heap.size w3 W' → Calls Tryz.prog 10 #[.pointer (some ⟨sb, 0, none⟩), .pointer none, .agg #[.int .u32 (a : Int), .int .u32 (b : Int), .int .u32 (c : Int)], .int .i64 fr] W' fun e w2 => e = .returned (.slice none 0 0) ∧ Below w3.heap.size w3 w2) := fun W' h => by
      obtain ⟨W1, s, ob, nb, q1, q2, q3⟩ := (L3.out.later h).ex
      have hP : ∀ j, j < m → ∃ x : Bei, x.wf ∧ paF xs j = bL x 8 := fun j hj => by
        obtain ⟨x, h1, h2⟩ := pa_some (show j < xs.length by omega)
        exact ⟨x, hx0.out x (List.mem_of_getElem? h1), h2⟩
      exact (run_nob q3 a b c ha hb fr (run_side (a := a) (b := b) q2 hP).2).mono fun _ _ ⟨q1, q2⟩ => ⟨q1, h.trans (q2.mono h.size)⟩
    have KK : Hid (∀ W', Below w3.heap.size w3 W' → W'.cell? ⟨w.heap.size, 0, none⟩ = some (.int .u32 (a : Int)) ∧ W'.cell? ⟨w.heap.size, 1, none⟩ = some (.int .u32 (b : Int)) ∧ W'.cell? ⟨w.heap.size, 2, none⟩ = some (.int .u32 (c : Int))) := fun W' h => by
      have q := C3.out.trans (h.mono C3.out.size)
      exact ⟨At.seen q (Nat.le_refl _) (cell_blk R1.out rfl), At.seen q (Nat.le_refl _) (cell_blk R1.out rfl), At.seen q (Nat.le_refl _) (cell_blk R1.out rfl)⟩
    obtain ⟨k0, k1, k2⟩ := KK.out wx HB.out
    generalize zz xs a b c fr m = Z at *
    have hzi : (Z.length : Int) ≤ 60 := by omega
    clear HN HB0 E1 C2 R1 L3 HM hx0
    go_wp2_with fail
    refine (RN.out wx HB.out).mono ?_
    rintro e w5 ⟨ga, gc, rfl, G5, b5⟩
    have D5 := hid (HB.out.trans (b5.mono HB.out.size))
    have W5 := hid (WI.out.later b5)
    clear RN b5 k0 k1 k2 WI
    obtain ⟨k0, k1, k2⟩ := KK.out w5 D5.out
    go_wp2_with fail
    refine (FN.out w5 D5.out).mono ?_
    rintro e w6 ⟨n, z, rfl, hnz, b6⟩
    have hd0 := D5.out.trans (b6.mono D5.out.size)
    have hd1 : Below w3.heap.size w3 w6.drew := hd0.drew
    have he0 := Below.refl w6.heap.size w6
    have he1 : Below w6.heap.size w6 w6.drew := he0.drew
    have W6 := hid (W5.out.later b6)
    have G6 := hid (G5.out.later b6)
    have SA : Hid (∀ W', Below w6.heap.size w6 W' → Calls Tryz.prog 12 #[.slice ga Z.length gc, .slice va Z.length vc] W' fun e w2 => e = .returned (.bool true) ∧ Below w3.heap.size w3 w2) := fun W' h => (Bd.same_any W' _ _ Z (G6.out.later h) (W6.out.later h) (by omega)).mono fun _ _ ⟨q1, q2⟩ => by
      have q := hd0.trans (h.mono hd0.size)
      exact ⟨q1, q.trans (q2.mono q.size)⟩
    clear FN b6 k0 k1 k2 W5 G5 D5
    obtain ⟨k0, k1, k2⟩ := KK.out w6 hd0
    rcases hnz.out with ⟨hZ, rfl, rfl⟩ | ⟨h0, rfl⟩
    · subst hZ
      clear hnz W6 G6
      go_upto_region 19 with fail
      go_region_held3 (fun W' => W'.cell? ⟨w.heap.size, 0, none⟩ = some (.int .u32 (a : Int)) ∧ W'.cell? ⟨w.heap.size, 1, none⟩ = some (.int .u32 (b : Int)) ∧ W'.cell? ⟨w.heap.size, 2, none⟩ = some (.int .u32 (c : Int)))
        (exact KK.out _ (by assumption))
        (first
          | (go_at_call 12; refine (SA.out _ (by assumption)).mono ?_; rintro e w7 ⟨rfl, hd7⟩)
          | (go_at_call 13; refine (CN.out _ (by assumption)).mono ?_; rintro e w8 ⟨rfl, hd8⟩)
          | (go_at_call_of 10 (Value.pointer (some ⟨bb, 0, none⟩)); refine (N1.out _ (by assumption)).mono ?_; rintro e w9 ⟨rfl, hd9⟩)
          | (go_at_call_of 10 (Value.pointer (some ⟨sb, 0, none⟩)); refine (N2.out _ (by assumption)).mono ?_; rintro e w10 ⟨rfl, hd10⟩))
      have C9 := hid (C3.out.trans (hd10.mono C3.out.size))
      have BF := hid (B1.out.trans (C9.out.mono B1.out.size))
      clear KK SA CN N1 N2 hd0 hd1 he0 he1 hd7 hd8 hd9 hd10 k0 k1 k2
      go_wp2_with fail
      go_ret
      exact ⟨by simp <;> decide, BF.out⟩
    · have hp : 0 < Z.length := (List.getElem?_eq_some_iff.1 h0).1
      obtain ⟨vb, vo, rfl, d⟩ := irow_at W6.out h0
      have d0 : w6.cell? ⟨vb, vo, none⟩ = some (.int .i64 n) := d 0 n h0
      have hpi : (0 : Int) < (Z.length : Int) := by omega
      have hpd : decide (0 < Z.length) = true := decide_eq_true hp
      clear hnz W6 G6 d h0
      go_upto_region 19 with fail
      clear d0
      go_region_held3 (fun W' => W'.cell? ⟨w.heap.size, 0, none⟩ = some (.int .u32 (a : Int)) ∧ W'.cell? ⟨w.heap.size, 1, none⟩ = some (.int .u32 (b : Int)) ∧ W'.cell? ⟨w.heap.size, 2, none⟩ = some (.int .u32 (c : Int)))
        (exact KK.out _ (by assumption))
        (first
          | (go_at_call 12; refine (SA.out _ (by assumption)).mono ?_; rintro e w7 ⟨rfl, hd7⟩)
          | (go_at_call 13; refine (CN.out _ (by assumption)).mono ?_; rintro e w8 ⟨rfl, hd8⟩)
          | (go_at_call_of 10 (Value.pointer (some ⟨bb, 0, none⟩)); refine (N1.out _ (by assumption)).mono ?_; rintro e w9 ⟨rfl, hd9⟩)
          | (go_at_call_of 10 (Value.pointer (some ⟨sb, 0, none⟩)); refine (N2.out _ (by assumption)).mono ?_; rintro e w10 ⟨rfl, hd10⟩))
      have C9 := hid (C3.out.trans (hd10.mono C3.out.size))
      have BF := hid (B1.out.trans (C9.out.mono B1.out.size))
      clear KK SA CN N1 N2 hd0 hd1 he0 he1 hd7 hd8 hd9 hd10 k0 k1 k2
      go_wp2_with fail
      go_ret
      exact ⟨by simp <;> decide, BF.out⟩
end Go.Proofs.YtoafpfheopgdkaaGreatDoor.Qr
