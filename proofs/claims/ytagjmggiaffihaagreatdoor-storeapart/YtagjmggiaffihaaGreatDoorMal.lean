/- Texts in one. -/
import Derived.Shelf.SlGeneric
import Derived.Shelf.SlSortCmp.WholeK
import Derived.Ground.SlsfProg
import Derived.Test.YtagjmggiaffihaaGreatDoorProg
import Derived.Deep.AppendSrc
import Derived.Deep.Onto
import Derived.Deep.RegionHeld3
import Derived.Test.YtagjmggiaffihaaGreatDoorMak
namespace Go.Proofs.YtagjmggiaffihaaGreatDoor.So
open Go.RowKit Go.Shelf Go.Maps
open Go.Proofs.YtagjmggiaffihaaGreatDoor.Co (I64 Pt Col CS I64_mid lies put6_blk put6_st put6)
open Go.Proofs.YtagjmggiaffihaaGreatDoor.At (St bAl cell_blk blk_seen blk_free)
open Go.Proofs.YtagjmggiaffihaaGreatDoor.Rs (Prt SD Prts PRow okL remP)
section
variable {Ad : Nat → Addr} {W : World}
set_option maxHeartbeats 1600000 in
set_option maxRecDepth 100000 in
theorem remove_err {rv : Value} {i g comp : Int} {k : Nat} (hk : k ≠ 0) (h : ∀ W', Below W.heap.size W W' → Calls Tryz.prog 38 #[rv, .agg #[.int .i64 i, .int .i64 g], .int .i64 comp] W' fun e W2 => ∃ r, e = .returned (.tuple #[Pt.zero.val 0, r]) ∧ Er Ad W2 r k ∧ Below W'.heap.size W' W2) :
    Calls Tryz.prog 23 #[rv, .agg #[.int .i64 i, .int .i64 g], .int .i64 comp] W fun e W' => ∃ r, e = .returned (.tuple #[Pt.zero.val 0, r]) ∧ Er Ad W' r k ∧ Below W.heap.size W W' := by
  obtain ⟨b1, r1, p1, q1, z1⟩ := yw_facts W i g comp
  obtain ⟨w1, hw1⟩ : ∃ w1, w1 = yw W i g comp := ⟨_, rfl⟩
  rw [← hw1] at b1 r1 p1 z1 q1
  have d0 := cell_blk r1 (j := 0) rfl
  have d1 := cell_blk r1 (j := 1) rfl
  have y0 : w1.cell? ⟨W.heap.size + 1, 0, none⟩ = some (.int .i64 comp) := cell_blk p1 rfl
  have FD := hid (h w1 b1)
  have HW1 := hid hw1
  have B1 := hid b1
  have Q1 := hid q1
  have HK := hid hk
  unfold yw at HW1
  unfold Pt.val Pt.zero at FD
  clear hw1 b1 r1 h p1 q1 hk z1
  go_enter Tryz.func23, Tryz.ntmps23
  go_upto_region 1 with fail
  rw [← HW1.out]
  go_wp2_with fail
  refine FD.out.mono ?_
  rintro e w2 ⟨r, rfl, hr, hb⟩
  obtain ⟨w3, hw3⟩ : ∃ w3, w3 = w2.alloc (.cells #[.int .i64 0, .int .i64 0, .int .i64 0, .int .i64 0, .int .i64 0, .int .i64 0] 47) := ⟨_, rfl⟩
  have b3 : Below w2.heap.size w2 w3 := by rw [hw3]; exact bAl _ _
  have B2 := hid ((B1.out.trans (hb.mono B1.out.size)).trans (b3.mono (B1.out.trans (hb.mono B1.out.size)).size))
  have Q2 := hid (blk_seen b3 (Nat.le_refl _) (blk_seen hb (Nat.le_refl _) Q1.out))
  have AC := hid fun str => at_er Ad str r k w3 (hr.later b3)
  have HW3 := hid hw3
  obtain ⟨t, q, rfl⟩ : ∃ t q, r = .iface t q := by
    rcases hr with ⟨e, -⟩ | ⟨-, t, q, e, -⟩
    · exact absurd e HK.out
    · exact ⟨t, q, e⟩
  clear hb hr FD y0 d0 d1 b3 hw3
  go_upto_region 2 with fail
  rw [← HW3.out]
  go_wp2_with fail
  refine (AC.out _).mono ?_
  rintro e w4 ⟨v', rfl, q1, q2⟩
  have q3 := blk_seen q2 (Nat.le_refl _) Q2.out
  have B3 := hid (B2.out.trans (q2.mono B2.out.size))
  have R3 := hid q1
  obtain ⟨x0, x1, x2, x3, x4, x5, f0, f1, f2, f3, f4, f5⟩ := lies q3
  have HZ : Hid (put6 w4 (W.heap.size + 2) 0 Pt.zero = w4) := Co.put6_same q3
  unfold put6 at HZ
  clear q1 q2 q3 AC
  go_wp2_with fail
  rw [show (((((w4.setCell ⟨W.heap.size + 2, 0, none⟩ (.int .i64 0)).setCell ⟨W.heap.size + 2, 1, none⟩ (.int .i64 0)).setCell ⟨W.heap.size + 2, 2, none⟩ (.int .i64 0)).setCell ⟨W.heap.size + 2, 3, none⟩ (.int .i64 0)).setCell ⟨W.heap.size + 2, 4, none⟩ (.int .i64 0)).setCell ⟨W.heap.size + 2, 5, none⟩ (.int .i64 0) = w4 from HZ.out]
  exact bodyPost_ret (v := .tuple #[Pt.zero.val 0, v']) (by simp [results, Tryz.results23, go_sem, x0, x1, x2, x3, x4, x5, Pt.zero, Pt.val]) rfl ⟨_, rfl, R3.out, B3.out⟩
set_option maxHeartbeats 3200000 in
set_option maxRecDepth 100000 in
theorem remove_ok {B : Nat} {sb : Nat} {c : CV} {s : SD} {i g : Nat} (h : Sto none B W sb c s) (ha : al s i g) (q : Prt) (hq : q ∈ s.at i) :
    Calls Tryz.prog 23 #[.pointer (some ⟨sb, 0, none⟩), .agg #[.int .i64 (i : Int), .int .i64 (g : Int)], .int .i64 q.c] W fun e W' => e = .returned (.tuple #[q.val, .nilIface]) ∧ ∃ c', Sto none B W' sb c' (entered s i (remP (s.at i) q.c)) ∧ c'.t = c.t ∧ Gw c c' W W' := by
  obtain ⟨b1, r1, p1, q1, z1⟩ := yw_facts W (i : Int) (g : Int) q.c
  obtain ⟨w1, hw1⟩ : ∃ w1, w1 = yw W (i : Int) (g : Int) q.c := ⟨_, rfl⟩
  rw [← hw1] at b1 r1 p1 z1 q1
  have d0 := cell_blk r1 (j := 0) rfl
  have d1 := cell_blk r1 (j := 1) rfl
  have y0 : w1.cell? ⟨W.heap.size + 1, 0, none⟩ = some (.int .i64 q.c) := cell_blk p1 rfl
  have FD := hid (get_ok (h.later b1) ha q hq)
  have HW1 := hid hw1
  have B1 := hid b1
  have R1 := hid r1
  have P1 := hid p1
  have Q1 := hid q1
  have H := hid h
  have HA := hid ha
  have HQ := hid hq
  unfold yw at HW1
  unfold Prt.val at FD ⊢
  clear hw1 b1 r1 h ha hq p1 q1
  go_enter Tryz.func23, Tryz.ntmps23
  go_upto_region 1 with fail
  rw [← HW1.out]
  go_wp2_with fail
  refine FD.out.mono ?_
  rintro e w2 ⟨rfl, hb⟩
  obtain ⟨w3, hw3⟩ : ∃ w3, w3 = w2.alloc (.cells #[.int .i64 q.c, .int .i64 q.v0, .int .i64 q.v1, .int .i64 q.v2, .int .i64 q.v3, .int .i64 q.t] 47) := ⟨_, rfl⟩
  have b3 : Below w2.heap.size w2 w3 := by rw [hw3]; exact bAl _ _
  have v3 : w3.heap[w2.heap.size]? = some (.cells q.arr 47 (0, 0)) := by rw [hw3]; exact heap_alloc_new w2 _
  have b13 := hb.trans (b3.mono hb.size)
  have V3 := hid v3
  have B3 := hid (B1.out.trans (b13.mono B1.out.size))
  have R3 := hid (blk_seen b13 (Nat.le_refl _) R1.out)
  have P3 := hid (blk_seen b13 (Nat.le_refl _) P1.out)
  have Q3 := hid (blk_seen b13 (Nat.le_refl _) Q1.out)
  have hz2 : W.heap.size + 3 ≤ w2.heap.size := by have := hb.size; omega
  have hz3 : W.heap.size + 2 < w3.heap.size := by have := b3.size; omega
  have HW3 := hid hw3
  have LV := hid (leave_rem H.out HA.out HQ.out B3.out R3.out P3.out hz3)
  have KK : Hid (∀ W', Below w3.heap.size w3 W' → Erd W i g W') := fun W' hb => ⟨cell_blk (blk_seen hb (Nat.le_refl _) R3.out) rfl, cell_blk (blk_seen hb (Nat.le_refl _) R3.out) rfl⟩
  unfold Erd at KK LV
  clear hb FD y0 d0 d1 b3 hw3 v3 b13 z1
  go_upto_region 2 with fail
  rw [← HW3.out]
  go_wp2_with fail
  go_region_held3 (fun W' => W'.cell? ⟨W.heap.size, 0, none⟩ = some (.int .i64 (i : Int)) ∧ W'.cell? ⟨W.heap.size, 1, none⟩ = some (.int .i64 (g : Int)))
    (first | exact KK.out _ (Below.refl _ _).drew | exact KK.out _ (Below.refl _ _) | exact K4.out _ (Below.refl _ _) | exact K5.out _ (Below.refl _ _) | exact K6.out)
    (first
      | (go_at_call 73; refine (LV.out _ (by first | exact (Below.refl _ _).drew | exact Below.refl _ _)).mono ?_; rintro e w4 ⟨v, rfl, K4, D4⟩)
      | (go_at_call 77; refine (D4.out _ (by first | exact Below.refl _ _ | exact (Below.refl _ _).drew)).mono ?_; rintro e w5 ⟨v5, rfl, K5, E5⟩)
      | (go_at_call 66; refine (E5.out _ (by first | exact Below.refl _ _ | exact (Below.refl _ _).drew)).mono ?_; rintro e w6 ⟨rfl, K6, R6⟩)
      | fail)
  all_goals
    have k8 := R6.out.1.2 _ _ (by omega) V3.out
    have z8 := R6.out.1.2 _ _ (by omega) Q3.out
    have t0 : w6.cell? ⟨w2.heap.size, 0, none⟩ = some (.int .i64 q.c) := cell_blk k8 rfl
    have t1 : w6.cell? ⟨w2.heap.size, 1, none⟩ = some (.int .i64 q.v0) := cell_blk k8 rfl
    have t2 : w6.cell? ⟨w2.heap.size, 2, none⟩ = some (.int .i64 q.v1) := cell_blk k8 rfl
    have t3 : w6.cell? ⟨w2.heap.size, 3, none⟩ = some (.int .i64 q.v2) := cell_blk k8 rfl
    have t4 : w6.cell? ⟨w2.heap.size, 4, none⟩ = some (.int .i64 q.v3) := cell_blk k8 rfl
    have t5 : w6.cell? ⟨w2.heap.size, 5, none⟩ = some (.int .i64 q.t) := cell_blk k8 rfl
    obtain ⟨x0, x1, x2, x3, x4, x5, f0, f1, f2, f3, f4, f5⟩ := lies z8
    have Z8 := hid z8
    clear k8 z8
    go_wp2_with fail
    have PB := put6_blk Z8.out rfl q.c (pt q)
    have PS := st_co (put6_st w6 (W.heap.size + 2) q.c (pt q))
    unfold put6 pt at PB PS
    dsimp only at PB PS
    obtain ⟨d0, d1, d2, d3, d4, d5, -, -, -, -, -, -⟩ := lies PB
    generalize (((((w6.setCell ⟨W.heap.size + 2, 0, none⟩ (.int .i64 q.c)).setCell ⟨W.heap.size + 2, 1, none⟩ (.int .i64 q.v0)).setCell ⟨W.heap.size + 2, 2, none⟩ (.int .i64 q.v1)).setCell ⟨W.heap.size + 2, 3, none⟩ (.int .i64 q.v2)).setCell ⟨W.heap.size + 2, 4, none⟩ (.int .i64 q.v3)).setCell ⟨W.heap.size + 2, 5, none⟩ (.int .i64 q.t) = w7 at *
    obtain ⟨-, c', e1, e2, e3, e4⟩ := R6.out
    refine bodyPost_ret (v := .tuple #[.agg #[.int .i64 q.c, .int .i64 q.v0, .int .i64 q.v1, .int .i64 q.v2, .int .i64 q.v3, .int .i64 q.t], .nilIface]) (by simp [results, Tryz.results23, go_sem, d0, d1, d2, d3, d4, d5]) rfl ⟨rfl, c', e1.keep PS fun k hk e => hk (by rw [e]; exact e3), e2, ⟨e4.st.trans PS fun k hk e => ?_, e4.new⟩⟩
    omega
end
end Go.Proofs.YtagjmggiaffihaaGreatDoor.So
namespace Go.Proofs
open Go.Shelf
def Tryz.sortEnt_ren : Go.Shelf.Ren := ⟨fun | 6 => 121 | 15 => 144 | 14 => 143 | 28 => 159 | 29 => 160 | 20 => 151 | 21 => 152 | 22 => 153 | 23 => 154 | 24 => 155 | 25 => 156 | 26 => 157 | 27 => 158 | 46 => 165 | 47 => 166 | 48 => 167 | 49 => 168 | 50 => 169 | 57 => 174 | n => n, fun | 22 => 41 | 24 => 43 | 25 => 227 | 3 => 3 | 39 => 90 | 0 => 0 | 53 => 48 | 55 => 258 | 4 => 4 | 46 => 252 | 45 => 251 | 50 => 121 | 5 => 5 | 9 => 9 | 66 => 263 | 70 => 267 | 76 => 273 | 77 => 274 | n => n, fun | n => n⟩
theorem Tryz.sortEnt : Go.Proofs.SlLaysF0.n6 Tryz.prog Tryz.sortEnt_ren := {
  mixed := by kernel_rfl
  f6 := ⟨Tryz.f121.name, by decide, Tryz.func121.trans (congrArg some (by kernel_rfl))⟩
  f14 := ⟨Tryz.f143.name, by decide, Tryz.func143.trans (congrArg some (by kernel_rfl))⟩
  f15 := Tryz.func144.trans (congrArg some (by kernel_rfl))
  f20 := ⟨Tryz.f151.name, by decide, Tryz.func151.trans (congrArg some (by kernel_rfl))⟩
  f21 := ⟨Tryz.f152.name, by decide, Tryz.func152.trans (congrArg some (by kernel_rfl))⟩
  f22 := ⟨Tryz.f153.name, by decide, Tryz.func153.trans (congrArg some (by kernel_rfl))⟩
  f23 := ⟨Tryz.f154.name, by decide, Tryz.func154.trans (congrArg some (by kernel_rfl))⟩
  f24 := ⟨Tryz.f155.name, by decide, Tryz.func155.trans (congrArg some (by kernel_rfl))⟩
  f25 := ⟨Tryz.f156.name, by decide, Tryz.func156.trans (congrArg some (by kernel_rfl))⟩
  f26 := ⟨Tryz.f157.name, by decide, Tryz.func157.trans (congrArg some (by kernel_rfl))⟩
  f27 := ⟨Tryz.f158.name, by decide, Tryz.func158.trans (congrArg some (by kernel_rfl))⟩
  f28 := Tryz.func159.trans (congrArg some (by kernel_rfl))
  f29 := Tryz.func160.trans (congrArg some (by kernel_rfl))
  f46 := ⟨Tryz.f165.name, by decide, Tryz.func165.trans (congrArg some (by kernel_rfl))⟩
  f47 := Tryz.func166.trans (congrArg some (by kernel_rfl))
  f48 := Tryz.func167.trans (congrArg some (by kernel_rfl))
  f49 := ⟨Tryz.f168.name, by decide, Tryz.func168.trans (congrArg some (by kernel_rfl))⟩
  f50 := ⟨Tryz.f169.name, by decide, Tryz.func169.trans (congrArg some (by kernel_rfl))⟩
  f57 := ⟨Tryz.f174.name, by decide, Tryz.func174.trans (congrArg some (by kernel_rfl))⟩
  t0 := Tryz.underlying0
  a0 := Tryz.isAgg0
  z0 := Tryz.sizeOf0
  v0 := Tryz.zeroValue0
  t3 := Tryz.underlying3
  a3 := Tryz.isAgg3
  z3 := Tryz.sizeOf3
  v3 := Tryz.zeroValue3
  t4 := Tryz.underlying4
  a4 := Tryz.isAgg4
  z4 := Tryz.sizeOf4
  v4 := Tryz.zeroValue4
  t5 := Tryz.underlying5
  a5 := Tryz.isAgg5
  z5 := Tryz.sizeOf5
  v5 := Tryz.zeroValue5
  t9 := Tryz.underlying9
  a9 := Tryz.isAgg9
  z9 := Tryz.sizeOf9
  v9 := Tryz.zeroValue9
  t22 := Tryz.underlying41
  a22 := Tryz.isAgg41
  z22 := Tryz.sizeOf41
  v22 := Tryz.zeroValue41
  t25 := Tryz.underlying227
  a25 := Tryz.isAgg227
  z25 := Tryz.sizeOf227
  v25 := Tryz.zeroValue227
  t39 := Tryz.underlying90
  a39 := Tryz.isAgg90
  z39 := Tryz.sizeOf90
  v39 := Tryz.zeroValue90
  t45 := Tryz.underlying251
  a45 := Tryz.isAgg251
  z45 := Tryz.sizeOf251
  v45 := Tryz.zeroValue251
  t46 := Tryz.underlying252
  a46 := Tryz.isAgg252
  z46 := Tryz.sizeOf252
  v46 := Tryz.zeroValue252
  t50 := Tryz.underlying121
  a50 := Tryz.isAgg121
  z50 := Tryz.sizeOf121
  v50 := Tryz.zeroValue121
  t53 := Tryz.underlying48
  a53 := Tryz.isAgg48
  z53 := Tryz.sizeOf48
  v53 := Tryz.zeroValue48
  t55 := Tryz.underlying258
  a55 := Tryz.isAgg258
  z55 := Tryz.sizeOf258
  v55 := Tryz.zeroValue258
  t66 := Tryz.underlying263
  a66 := Tryz.isAgg263
  z66 := Tryz.sizeOf263
  v66 := Tryz.zeroValue263
  t70 := Tryz.underlying267
  a70 := Tryz.isAgg267
  z70 := Tryz.sizeOf267
  v70 := Tryz.zeroValue267
  t76 := Tryz.underlying273
  a76 := Tryz.isAgg273
  z76 := Tryz.sizeOf273
  v76 := Tryz.zeroValue273
  t77 := Tryz.underlying274
  a77 := Tryz.isAgg274
  z77 := Tryz.sizeOf274
  v77 := Tryz.zeroValue274 }
end Go.Proofs
namespace Go.Proofs.YtagjmggiaffihaaGreatDoor.So
open Go.RowKit Go.Shelf Go.Maps
open Go.Proofs.YtagjmggiaffihaaGreatDoor.Co (I64 I64_mid)
open Go.Proofs.YtagjmggiaffihaaGreatDoor.At (St bAl cell_blk blk_seen blk_free)
open Go.Proofs.YtagjmggiaffihaaGreatDoor.Ro (Ents entCells entCells_len)
def encE (x : Nat × Nat) : List Value := [.int .i64 (x.1 : Int), .int .i64 (x.2 : Int)]
def cmpE (x y : Nat × Nat) : Int := if x.1 < y.1 then -1 else if y.1 < x.1 then 1 else 0
theorem ltE (x y : Nat × Nat) : ltOf cmpE x y = decide (x.1 < y.1) := by
  unfold ltOf cmpE
  by_cases h1 : x.1 < y.1
  · simp [h1]
  · by_cases h2 : y.1 < x.1 <;> simp [h1, h2]
theorem swoE : Sort.SWO (ltOf cmpE) :=
  ⟨fun x => by rw [ltE]; simp, fun x y z h1 h2 => by rw [ltE] at *; simp at *; omega, fun x y z h1 h2 => by rw [ltE] at *; simp at *; omega⟩
set_option maxHeartbeats 800000 in
theorem nan_any (x : Int) (W : World) : Calls Tryz.prog 145 #[.int .i64 x] W fun e W' => e = .returned (.bool false) ∧ W' = W := by
  go_enter Tryz.func145, Tryz.ntmps145
  go_wp2_with fail
  go_ret
  exact ⟨by simp, rfl⟩
set_option maxHeartbeats 1600000 in
set_option maxRecDepth 100000 in
theorem compare_any (x y : Nat × Nat) (W : World) : Calls Tryz.prog 123 #[.int .i64 (x.1 : Int), .int .i64 (y.1 : Int)] W fun e W' => e = .returned (.int .i64 (cmpE x y)) ∧ W' = W := by
  have NN := hid nan_any
  obtain ⟨r, hr⟩ : ∃ r, r = cmpE x y := ⟨_, rfl⟩
  rw [← hr]
  unfold cmpE at hr
  obtain ⟨a, ha⟩ : ∃ a, a = x.1 := ⟨_, rfl⟩
  obtain ⟨b, hb⟩ : ∃ b, b = y.1 := ⟨_, rfl⟩
  rw [← ha, ← hb] at hr ⊢
  clear ha hb
  by_cases h1 : a < b
  · have h1' : (a : Int) < (b : Int) := by omega
    rw [if_pos h1] at hr
    subst hr
    clear h1
    go_enter Tryz.func123, Tryz.ntmps123
    go_wp2_with (go_at_call 145; refine (NN.out _ _).mono ?_; rintro e w' ⟨rfl, hq⟩; obtain rfl := hq.symm)
    go_ret
    exact ⟨rfl, rfl⟩
  · have h1' : ¬ ((a : Int) < (b : Int)) := by omega
    rw [if_neg h1] at hr
    by_cases h2 : b < a
    · have h2' : (b : Int) < (a : Int) := by omega
      rw [if_pos h2] at hr
      subst hr
      clear h1 h2
      go_enter Tryz.func123, Tryz.ntmps123
      go_wp2_with (go_at_call 145; refine (NN.out _ _).mono ?_; rintro e w' ⟨rfl, hq⟩; obtain rfl := hq.symm)
      go_ret
      exact ⟨rfl, rfl⟩
    · have h2' : ¬ ((b : Int) < (a : Int)) := by omega
      rw [if_neg h2] at hr
      subst hr
      clear h1 h2
      go_enter Tryz.func123, Tryz.ntmps123
      go_wp2_with (go_at_call 145; refine (NN.out _ _).mono ?_; rintro e w' ⟨rfl, hq⟩; obtain rfl := hq.symm)
      go_ret
      exact ⟨rfl, rfl⟩
set_option maxHeartbeats 1600000 in
set_option maxRecDepth 100000 in
theorem gather1_any (x y : Nat × Nat) (W : World) : Calls Tryz.prog 122 #[.agg #[.int .i64 (x.1 : Int), .int .i64 (x.2 : Int)], .agg #[.int .i64 (y.1 : Int), .int .i64 (y.2 : Int)]] W fun e w' => e = .returned (.int .i64 (cmpE x y)) ∧ ∃ q os', w' = Sort.grow (W.drewN q) os' := by
  have CC := hid (compare_any x y)
  generalize cmpE x y = r at CC ⊢
  go_enter Tryz.func122, Tryz.ntmps122
  go_wp2_with (go_at_call 123; refine (CC.out _).mono ?_; rintro e w' ⟨rfl, hq⟩; obtain rfl := hq.symm)
  go_ret
  exact ⟨rfl, 0, _, by rw [Sort.alloc_eq_grow, Sort.alloc_eq_grow, Sort.grow_grow]; rfl⟩
theorem enters_gather1 : ∀ args w, (callFunc 122 args).run Tryz.prog w = .ok (.enter 122 args) w := enters_of Tryz.func122 (by kernel_rfl) rfl
end Go.Proofs.YtagjmggiaffihaaGreatDoor.So
namespace Go.Proofs.YtagjmggiaffihaaGreatDoor.So
open Go.RowKit Go.Shelf Go.Maps
open Go.Proofs.YtagjmggiaffihaaGreatDoor.Co (I64 I64_mid)
open Go.Proofs.YtagjmggiaffihaaGreatDoor.At (St bAl cell_blk blk_seen blk_free)
open Go.Proofs.YtagjmggiaffihaaGreatDoor.Ro (Ents entCells entCells_len)
theorem flat_at (l : List (Nat × Nat)) (t : Nat) (ht : t < l.length * 2) : (entCells l)[t]? = some (Sort.flatK encE 2 l.toArray)[t]! := by
  rw [Sort.get_flatK encE 2 l.toArray t (by simpa using ht)]
  have hj : t / 2 < l.length := by omega
  obtain ⟨p, hp⟩ := at_lt l (t / 2) hj
  obtain ⟨e0, e1⟩ := ent_at hp
  have hg : l.toArray[t / 2]! = p := by
    rw [getElem!_pos l.toArray (t / 2) (by simpa using hj)]
    obtain ⟨h, e⟩ := List.getElem?_eq_some_iff.1 hp
    simpa using e
  rw [hg]
  obtain ⟨j, hj2⟩ : ∃ j, j = t / 2 := ⟨_, rfl⟩
  rw [← hj2] at e0 e1
  rcases Nat.mod_two_eq_zero_or_one t with h | h
  · rw [h, show t = j * 2 by omega, e0]; rfl
  · rw [h, show t = j * 2 + 1 by omega, e1]; rfl
theorem ents_blk {N : Nat} {W : World} {g n cap : Nat} {l : List (Nat × Nat)} (h : Ents N W (.slice (some ⟨g, 0, none⟩) n cap) l) : n = l.length ∧ N ≤ g ∧ ∃ cur, W.heap[g]? = some (.cells cur 43 (0, 0)) ∧ l.length ≤ cap ∧ cap ≤ maxLen ∧ cur.size = cap * 2 ∧ cur.toList.take (l.length * 2) = entCells l := by
  obtain ⟨-, h | ⟨g', cap', cur, e, h1, h2, h3, h4, h5, h6⟩⟩ := (h : World.ownsRow _ _ _ _ _ _ _)
  · simp at h
  · obtain ⟨rfl, rfl, rfl⟩ : g = g' ∧ n = l.length ∧ cap = cap' := by simpa using e
    exact ⟨rfl, h1, cur, h2, h3, h4, h5, h6⟩
theorem sort_ents {N : Nat} {W : World} {g n cap : Nat} {l : List (Nat × Nat)} (h : Ents N W (.slice (some ⟨g, 0, none⟩) n cap) l) (hl : l.length ≤ 1000) :
    Calls Tryz.prog 121 #[.slice (some ⟨g, 0, none⟩) n cap, .func (.func 122) #[] #[]] W fun e W' => e = .returned (.tuple #[]) ∧ ∃ l', l'.Perm l ∧ l'.Pairwise (fun x y => x.1 ≤ y.1) ∧ Ents N W' (.slice (some ⟨g, 0, none⟩) n cap) l' ∧ St (fun k => k = g) W W' := by
  obtain ⟨rfl, h1, cur, h2, h3, h4, h5, h6⟩ := ents_blk h
  have hg : g < W.heap.size := (Array.getElem?_eq_some_iff.1 h2).1
  have hle : l.length * 2 ≤ cur.size := by rw [h5]; exact Nat.mul_le_mul_right 2 h3
  have hH : Sort.HoldsK encE 2 W g 0 l.toArray := by
    intro t ht
    have ht' : t < l.length * 2 := by simpa using ht
    rw [Nat.zero_add]
    refine ⟨?_, blk_free h2 t⟩
    have := flat_at l t ht'
    rw [← h6, List.getElem?_take_of_lt ht'] at this
    exact cell_blk h2 (by rw [← Array.getElem?_toList]; exact this)
  have hcmp : CmpLays Tryz.prog 122 #[] encE 2 cmpE g 0 l.toArray.size W := fun _ _ _ _ x y => gather1_any x y _
  have hcon := AnyQ.slices_SortFunc Tryz.sortEnt 2 Tryz.isAgg43 Tryz.sizeOf43 encE (fun _ => rfl) (fun x v hv => by simp [encE] at hv; rcases hv with rfl | rfl <;> rfl) cmpE swoE 122 #[] g 0 cap l.toArray W enters_gather1 hcmp hH hg (by simp; omega)
  have hcon' : Calls Tryz.prog 121 #[.slice (some ⟨g, 0, none⟩) l.length cap, .func (.func 122) #[] #[]] W _ := hcon
  refine hcon'.mono ?_
  rintro e W' ⟨rfl, d', m, os, hp, hs, rfl⟩
  have hsz : d'.size = l.length := by simpa using hp.1
  have hperm : d'.toList.Perm l := by
    have := hp.2.2
    simp at this
    rwa [List.take_of_length_le (by simp [hsz])] at this
  have hdl : d'.toList.length = l.length := by simpa using hsz
  refine ⟨rfl, d'.toList, hperm, ?_, ?_, ?_⟩
  · rw [List.pairwise_iff_getElem]
    intro i j hi hj hij
    have q := hs i j (Nat.zero_le _) hij (by simp; omega)
    rw [ltE] at q
    simp at q hi hj
    rw [getElem!_pos d' i hi, getElem!_pos d' j hj] at q
    simpa using q
  · have hb : (sortWorldK encE 2 W g 0 m d' os).heap[g]? = some (.cells (Sort.putCells id 0 (Sort.flatK encE 2 d') cur) 43 (0, 0)) := by
      unfold sortWorldK
      rw [Sort.heap_grow_old _ _ (by unfold Sort.putRowK; simpa using hg)]
      simp [Sort.putRowK, Sort.putRow, Sort.mapBlock, Sort.ahead, Array.getElem?_modify, h2, Sort.onCells]
    refine ⟨?_, .inr ⟨g, cap, _, by rw [hdl], h1, hb, by omega, h4, by simp [Sort.putCells, h5], ?_⟩⟩
    · rw [entCells_len]
    · refine List.ext_getElem? fun t => ?_
      by_cases ht : t < d'.toList.length * 2
      · rw [List.getElem?_take_of_lt ht, flat_at _ _ ht, Array.getElem?_toList]
        have : t < cur.size := by omega
        simp only [Sort.putCells, Array.getElem?_mapIdx]
        rw [Array.getElem?_eq_getElem this]
        simp at ht
        simp [ht]
      · rw [List.getElem?_take_eq_none (by omega), List.getElem?_eq_none (by rw [entCells_len]; omega)]
  · refine ⟨rfl, rfl, rfl, ?_, fun k hk hn => ?_⟩
    · unfold sortWorldK Sort.putRowK; simp [Sort.ahead]
    · unfold sortWorldK
      rw [Sort.heap_grow_old _ _ (by unfold Sort.putRowK; simpa using hk)]
      have : g ≠ k := fun e => hn e.symm
      simp [Sort.putRowK, Sort.putRow, Sort.mapBlock, Sort.ahead, Array.getElem?_modify, this]
end Go.Proofs.YtagjmggiaffihaaGreatDoor.So
namespace Go.Proofs.YtagjmggiaffihaaGreatDoor.So
open Go.RowKit Go.Shelf Go.Maps
open Go.Proofs.YtagjmggiaffihaaGreatDoor.At (St bAl cell_blk blk_seen blk_free)
open Go.Proofs.YtagjmggiaffihaaGreatDoor.Ro (Ents entCells entCells_len)
set_option maxHeartbeats 1600000 in
set_option maxRecDepth 100000 in
theorem ins_none (v fv : Value) (W : World) : Calls Tryz.prog 151 #[v, .int .i64 0, .int .i64 0, fv] W fun e W' => e = .returned (.tuple #[]) ∧ W' = W := by
  go_enter Tryz.func151, Tryz.ntmps151
  go_wp2_with fail
  go_loop [8] (fun i => i = .int .i64 1) (fun _ => 0)
  case atStart => rfl
  case round =>
    obtain rfl := hrel
    go_wp2_with fail
    go_end0
    exact ⟨rfl, rfl⟩
set_option maxHeartbeats 1600000 in
set_option maxRecDepth 100000 in
theorem pdq_none (v fv lv : Value) (W : World) : Calls Tryz.prog 143 #[v, .int .i64 0, .int .i64 0, lv, fv] W fun e W' => e = .returned (.tuple #[]) ∧ W' = W := by
  have IN := hid (ins_none v fv)
  go_enter Tryz.func143, Tryz.ntmps143
  go_wp2_with fail
  go_loop [1, 2] (fun a b => a = .int .i64 0 ∧ b = .int .i64 0) (fun _ _ => 0)
  case atStart => exact ⟨rfl, rfl⟩
  case round =>
    obtain ⟨rfl, rfl⟩ := hrel
    go_wp2_with (go_at_call 151; refine (IN.out _).mono ?_; rintro e w' ⟨rfl, hq⟩; obtain rfl := hq.symm)
    exact bodyPost_ret (v := .tuple #[]) (by simp [results, Tryz.results143, go_sem]) rfl ⟨rfl, rfl⟩
theorem len_zero (W : World) : ∃ r : Int, Calls Tryz.prog 144 #[.int .u64 0] W fun e W' => e = .returned (.int .i64 r) ∧ W' = W :=
  ⟨_, Any.bits_Len (SlLaysF0.n15.bits (P := Tryz.prog) (ρ := Tryz.sortEnt_ren) { Tryz.sortEnt with }) 0 W (by omega) (by omega)⟩
set_option maxHeartbeats 1600000 in
set_option maxRecDepth 100000 in
theorem sort_nil (fv : Value) (W : World) : Calls Tryz.prog 121 #[.slice none 0 0, fv] W fun e W' => e = .returned (.tuple #[]) ∧ W' = W := by
  obtain ⟨r, hr⟩ := len_zero W
  have LN := hid hr
  have PQ := hid (pdq_none (.slice none 0 0) fv (.int .i64 r))
  clear hr
  go_enter Tryz.func121, Tryz.ntmps121
  go_wp2_with (first | (go_at_call 144; refine LN.out.mono ?_; rintro e w' ⟨rfl, hq⟩; obtain rfl := hq.symm) | (go_at_call 143; refine (PQ.out _).mono ?_; rintro e w' ⟨rfl, hq⟩; obtain rfl := hq.symm))
  go_end0
  exact ⟨rfl, rfl⟩
/-- A row of entities, sorted. -/
theorem sort_any {N : Nat} {W : World} {v : Value} {l : List (Nat × Nat)} (h : Ents N W v l) (hl : l.length ≤ 1000) :
    Calls Tryz.prog 121 #[v, .func (.func 122) #[] #[]] W fun e W' => e = .returned (.tuple #[]) ∧ ∃ l', l'.Perm l ∧ l'.Pairwise (fun x y => x.1 ≤ y.1) ∧ Ents N W' v l' ∧ St (fun k => v.ownBlock = some k) W W' := by
  rcases h.2 with ⟨rfl, h0⟩ | ⟨g, cap, cur, rfl, -⟩
  · refine (sort_nil _ W).mono ?_
    rintro e W' ⟨rfl, rfl⟩
    obtain rfl := List.length_eq_zero_iff.1 h0
    exact ⟨rfl, [], List.Perm.refl _, List.Pairwise.nil, h, St.of_below (Below.refl _ _)⟩
  · refine (sort_ents h hl).mono ?_
    rintro e W' ⟨rfl, l', h1, h2, h3, h4⟩
    exact ⟨rfl, l', h1, h2, h3, ⟨h4.os, h4.tape, h4.output, h4.size, fun k hk hn => h4.block k hk fun e => hn (by rw [e]; rfl)⟩⟩
end Go.Proofs.YtagjmggiaffihaaGreatDoor.So
namespace Go.Proofs.YtagjmggiaffihaaGreatDoor.So
open Go.RowKit Go.Shelf Go.Maps
open Go.Proofs.YtagjmggiaffihaaGreatDoor.Co (I64 I64_mid)
open Go.Proofs.YtagjmggiaffihaaGreatDoor.At (St bAl cell_blk blk_seen blk_free few_of)
open Go.Proofs.YtagjmggiaffihaaGreatDoor.Ro (Ents entCells entCells_len infoEnt)
open Go.Proofs.YtagjmggiaffihaaGreatDoor.Rs (SD)
theorem ent_one (l : List (Nat × Nat)) : ∀ u ∈ entCells l, u.oneCell' = true := by
  intro u hu
  simp only [entCells, List.mem_flatMap] at hu
  obtain ⟨p, _, hp⟩ := hu
  simp [Ro.gI] at hp
  rcases hp with rfl | rfl <;> rfl
theorem entCells_app (l m : List (Nat × Nat)) : entCells (l ++ m) = entCells l ++ entCells m := by simp [entCells]
theorem run_ents {B N : Nat} {wc : World} {v sv : Value} {xs ns : List (Nat × Nat)} (hown : Ents N wc v xs) (hsrc : Ents B wc sv ns) (hl : xs.length + ns.length ≤ 2000) (hN : N ≤ wc.heap.size) (ty : TypeId) :
    ∃ v' w', (Builtin.append_ #[41, 41] ty #[v, sv]).run Tryz.prog wc = .ok v' w' ∧ Ents N w' v' (xs ++ ns) ∧ wc.grownBy w' v.ownBlock := by
  obtain ⟨i0, hi, hz0, hz1, hz2⟩ := info_parts infoEnt
  rcases hsrc.2 with ⟨h1, h2⟩ | ⟨g, cap, cur, h1, h2, h3, h4, h5, h6, h7⟩
  · have hn : ns = [] := List.eq_nil_of_length_eq_zero h2
    subst hn
    rw [h1]
    refine ⟨v, wc, run_append_owned_none wc N 41 ty 43 i0 2 Tryz.underlying41 hi v xs.length (entCells xs) hown, by rw [List.append_nil]; exact hown, ⟨rfl, rfl, rfl, Nat.le_refl _, fun _ _ _ => rfl⟩⟩
  · rw [h1]
    have hc := hsrc
    rw [h1] at hc
    obtain ⟨v', w', hr, h8, h9, -, -⟩ := run_append_own_at (P := Tryz.prog) wc N 41 ty 43 i0 (.agg #[.int .i64 0, .int .i64 0]) 2 16 Tryz.underlying41 hi hz0 hz1 hz2 rfl (by decide) v xs.length (entCells xs) hown ⟨g, 0, none⟩ ns.length cap (entCells ns) (entCells_len ns) (fun j u hu => by
      rw [add_at]
      have hj : j < ns.length * 2 := by have := (List.getElem?_eq_some_iff.1 hu).1; rw [entCells_len] at this; exact this
      rw [World.ownsRow.cellAt hc j hj]; exact hu) (ent_one ns) (by unfold maxLen; omega) (by omega) hN
    refine ⟨v', w', hr, ?_, h9⟩
    show World.ownsRow _ _ _ _ _ _ _
    rw [entCells_app, List.length_append]
    exact h8
theorem wpList_ents {ops : Array Oper} {rest : List Oper} {o : Oper} {a : Act} {Q : Exit → Act → World → Prop} (hgd : o.guard = none) (s x : Operand)
    (ho : o.op = .call { callee := .builtin .append, args := #[s, x], argTypes := #[41, 41] }) {B N : Nat} {wc : World} {v sv : Value} {xs ns : List (Nat × Nat)} (hown : Ents N wc v xs) (hsrc : Ents B wc sv ns) (hl : xs.length + ns.length ≤ 2000) (hN : N ≤ wc.heap.size) (hs : a.eval s = v) (hx : a.eval x = sv)
    (h : ∀ v' w4, Hid (Ents N w4 v' (xs ++ ns)) → Hid (wc.grownBy w4 v.ownBlock) → wpList Tryz.prog ops Q rest (a.put o.dst v') w4) :
    wpList Tryz.prog ops Q (o :: rest) a wc := by
  refine wpList_plain hgd fun K hK => ?_
  obtain ⟨v', w', hr, h2, h3⟩ := run_ents hown hsrc hl hN o.type
  unfold Oper.wp
  simp [execOp, ho, resolve, invoke, builtin, hs, hx, hr, Result.andThen]
  exact hK _ _ (h v' w' h2 h3)
/-- What is gathered so far. -/
structure Gt (tab : Nat → Option (List (Nat × Nat))) (mt : Nat → List (Nat × Nat)) (left : Lit → Bool) (l : List (Nat × Nat)) : Prop where
  mem : ∀ x, x ∈ l ↔ ∃ n own, tab n = some own ∧ left (.int .i64 (n : Int)) = false ∧ x ∈ mt n
  ap : l.Pairwise (fun x y => x.1 ≠ y.1)
/-- What is meant of each table. -/
structure Mn (tab : Nat → Option (List (Nat × Nat))) (mt : Nat → List (Nat × Nat)) : Prop where
  sub : ∀ n own, tab n = some own → ∀ x ∈ mt n, x ∈ own
  ap : ∀ n own, tab n = some own → (mt n).Pairwise (fun x y => x.1 ≠ y.1)
  one : ∀ n own n' own', tab n = some own → tab n' = some own' → ∀ x ∈ own, ∀ y ∈ own', x.1 = y.1 → n = n'
theorem Gt.step {tab : Nat → Option (List (Nat × Nat))} {mt : Nat → List (Nat × Nat)} {left : Lit → Bool} {l : List (Nat × Nat)} (hm : Mn tab mt) (h : Gt tab mt left l) {n : Nat} {own : List (Nat × Nat)} (hn : tab n = some own) (hl : left (.int .i64 (n : Int)) = true) : Gt tab mt (fun z => left z && !z.sameKey (.int .i64 (n : Int))) (l ++ mt n) := by
  refine ⟨fun x => ?_, List.pairwise_append.2 ⟨h.ap, hm.ap n own hn, fun x hx y hy e => ?_⟩⟩
  · rw [List.mem_append, h.mem x]
    constructor
    · rintro (⟨k, o, e1, e2, e3⟩ | hx)
      · exact ⟨k, o, e1, by simp [e2], e3⟩
      · exact ⟨n, own, hn, by simp [Lit.sameKey], hx⟩
    · rintro ⟨k, o, e1, e2, e3⟩
      by_cases e : k = n
      · subst e; exact .inr e3
      · refine .inl ⟨k, o, e1, ?_, e3⟩
        have : (Lit.int .i64 (k : Int)).sameKey (.int .i64 (n : Int)) = false := by simp [Lit.sameKey]; omega
        simpa [this] using e2
  · obtain ⟨k, o, e1, e2, e3⟩ := (h.mem x).1 hx
    obtain rfl := hm.one k o n own e1 hn x (hm.sub k o e1 x e3) y (hm.sub n own hn y hy) e
    rw [e2] at hl
    cases hl
theorem Gt.few {tab : Nat → Option (List (Nat × Nat))} {mt : Nat → List (Nat × Nat)} {left : Lit → Bool} {l : List (Nat × Nat)} {N : Nat} (hm : Mn tab mt) (h : Gt tab mt left l) (hN : ∀ n own, tab n = some own → ∀ x ∈ own, x.1 < N) : l.length ≤ N := by
  have hnd : (l.map fun x => x.1).Nodup := by rw [List.Nodup, List.pairwise_map]; exact h.ap
  have := few_of (N := N) hnd fun x hx => by
    obtain ⟨p, hp, rfl⟩ := List.mem_map.1 hx
    obtain ⟨k, o, e1, e2, e3⟩ := (h.mem p).1 hp
    exact hN k o e1 p (hm.sub k o e1 p e3)
  simpa using this
theorem Mn.of {ex : Option Nat} {tab : Nat → Option (List (Nat × Nat))} {seat : List (Nat × Nat)} {s : SD} {mt : Nat → List (Nat × Nat)} (h : Lk ex tab seat s) (hsub : ∀ n own, tab n = some own → (mt n).Sublist own) : Mn tab mt := by
  have one : ∀ n own n' own', tab n = some own → tab n' = some own' → ∀ x ∈ own, ∀ y ∈ own', x.1 = y.1 → n = n' := fun n own n' own' h1 h2 x hx y hy e => by
    obtain ⟨j, hj⟩ := List.getElem?_of_mem hx
    obtain ⟨j', hj'⟩ := List.getElem?_of_mem hy
    obtain ⟨a, b⟩ := x
    obtain ⟨a', b'⟩ := y
    change a = a' at e
    subst e
    exact (h.one h1 h2 hj hj').1
  refine ⟨fun n own hn x hx => (hsub n own hn).subset hx, fun n own hn => List.Pairwise.sublist (hsub n own hn) ?_, one⟩
  rw [List.pairwise_iff_getElem]
  intro i j hi hj hij e
  have e1 := List.getElem?_eq_getElem hi
  have e2 := List.getElem?_eq_getElem hj
  generalize own[i] = x at e e1
  generalize own[j] = y at e e2
  obtain ⟨a, b⟩ := x
  obtain ⟨a', b'⟩ := y
  change a = a' at e
  subst e
  have := (h.one hn hn e1 e2).2
  omega
end Go.Proofs.YtagjmggiaffihaaGreatDoor.So
namespace Go.Proofs.YtagjmggiaffihaaGreatDoor.So
open Go.RowKit Go.Shelf Go.Maps
open Go.Proofs.YtagjmggiaffihaaGreatDoor.Co (I64 I64_mid keyed3)
open Go.Proofs.YtagjmggiaffihaaGreatDoor.At (St bAl cell_blk blk_seen blk_free few_of)
open Go.Proofs.YtagjmggiaffihaaGreatDoor.Ro (Ents entCells entCells_len)
open Go.Proofs.YtagjmggiaffihaaGreatDoor.Rs (SD)
/-- A store that is not there. -/
theorem gather_nil (fv : Value) (W : World) : Calls Tryz.prog 85 #[.pointer none, fv] W fun e W' => e = .returned (.slice none 0 0) ∧ W' = W := by
  go_enter Tryz.func85, Tryz.ntmps85
  go_wp2_with fail
  go_ret
  exact ⟨rfl, rfl⟩
/-- The table that comes next. -/
theorem next_tab {D : DataW Unit} {tab : Nat → Option (List (Nat × Nat))} {tv : Nat → TV} (hH : PHolds D (tabMap tab tv)) {x : Int} {kl : Lit} {o : Option Nat} {y : DataW Unit × List MemPlace} (hk : keyOf Tryz.prog 3 (.int .i64 x) = some kl) (hR : ptrElem (ptrV o) = some y) (hat : ∀ zd, D.atKey kl zd = y.1) :
    ∃ (n : Nat) (own : List (Nat × Nat)), kl = .int .i64 (n : Int) ∧ x = (n : Int) ∧ tab n = some own ∧ o = some (tv n).tb := by
  obtain ⟨x', e1, rfl, hw⟩ := Maps.keyOf_int_inv Tryz.underlying3 hk
  obtain rfl : x = x' := by simpa using e1
  obtain ⟨h1, h2⟩ := hH x hw
  rw [has_true_of_atKey hat] at h1
  rw [hat .nil] at h2
  rw [ptrElem_mk] at hR
  obtain rfl : (ptrD o, []) = y := by simpa using hR
  have e3 := ptrD_inj h2
  obtain ⟨b, hb⟩ := Option.isSome_iff_exists.1 h1.symm
  rw [hb] at e3
  unfold lk at hb
  split at hb
  · rename_i h0
    unfold tabMap at hb
    cases ht : tab x.toNat with
    | none => rw [ht] at hb; cases hb
    | some own =>
      rw [ht] at hb
      have hx : x = (x.toNat : Int) := by omega
      refine ⟨x.toNat, own, by rw [← hx], hx, ht, ?_⟩
      rw [e3]
      exact hb.symm
  · cases hb
set_option maxHeartbeats 3200000 in
set_option maxRecDepth 100000 in
theorem gather_any (fk : Nat) (lb : Array Value) (eg : ∀ args w, (callFunc fk args).run Tryz.prog w = .ok (.enter fk args) w) {B : Nat} {W : World} {sb : Nat} {c : CV} {s : SD} (h : Sto none B W sb c s) (mt : Nat → List (Nat × Nat)) (hmt : ∀ n own, c.tab n = some own → (mt n).Sublist own)
    (HC : ∀ n own, c.tab n = some own → ∀ W', Below W.heap.size W W' → Calls Tryz.prog fk (#[.pointer (some ⟨(c.tv n).tb, 0, none⟩)] ++ lb) W' fun e W2 => ∃ v, e = .returned v ∧ Ents 0 W2 v (mt n) ∧ Below W'.heap.size W' W2) :
    Calls Tryz.prog 85 #[.pointer (some ⟨sb, 0, none⟩), .func (.func fk) #[] lb] W fun e W' => ∃ v l, e = .returned v ∧ Ents W.heap.size W' v l ∧ l.Pairwise (fun x y => x.1 < y.1) ∧ (∀ x, x ∈ l ↔ ∃ n own, c.tab n = some own ∧ x ∈ mt n) ∧ Below W.heap.size W W' := by
  have c2 := h.c2
  obtain ⟨D, hown, hH⟩ := h.map
  have MN := hid (Mn.of h.lk hmt)
  have htm := hown.lt
  have HN : Hid (∀ n own, c.tab n = some own → ∀ x ∈ own, x.1 < 64) := fun n own hn x hx => by
    obtain ⟨j, hj⟩ := List.getElem?_of_mem hx
    obtain ⟨a, b⟩ := x
    have q := al_lt ((h.lk.back n own hn).2 j a b hj).1
    have := h.rol.small
    show a < 64
    omega
  have G0 : Hid (Gt c.tab mt (Maps.has D) []) := ⟨fun x => ⟨fun q => by simp at q, fun ⟨n, own, e1, e2, e3⟩ => by
    obtain ⟨m, e4, -⟩ := h.tabs n own e1
    have hn := (List.getElem?_eq_some_iff.1 e4).1
    have hs := At.AS.ok.small h.atl.ok
    have hs' : s.sets.length ≤ 65536 := hs
    have := (hH (n : Int) (I64_mid (by omega) (by omega))).1
    rw [e2, lk_nat] at this
    unfold tabMap at this
    rw [e1] at this
    cases this⟩, List.Pairwise.nil⟩
  have HH := hid hH
  have HCC := hid HC
  obtain ⟨nn, hnn⟩ : ∃ nn, nn = Maps.size D := ⟨_, rfl⟩
  rw [← hnn] at hown
  clear h HC hmt hH hnn
  go_enter Tryz.func85, Tryz.ntmps85
  go_wp2_with (first
    | (at_range; refine wpList_range_own _ rfl _ 109 rfl 3 142 keyed3 Tryz.underlying109 ptrElem c.tm nn D rfl hown ?_; intro w0 hrg0 hg0 hs0)
    | fail)
  go_frame
  have B0 : Hid (Below W.heap.size W w0) := ⟨hg0.os, hg0.tape, hg0.output, hg0.size, fun k hk => hg0.block k hk (by simp)⟩
  have hsz0 : W.heap.size + 1 ≤ w0.heap.size := by omega
  have RG0 := hid hrg0
  clear hrg0 hg0 hs0 hown c2
  go_loopg [5, 7] (Maps.size D) (fun gh lv _ wr => ∃ (left : Lit → Bool) (l : List (Nat × Nat)), Hid (wr.ranges Tryz.prog 3 ptrElem c.tm W.heap.size nn D left gh) ∧ Hid (Ents (W.heap.size + 1) wr lv l) ∧ Hid (Gt c.tab mt left l) ∧ Hid (Below W.heap.size W wr) ∧ W.heap.size + 1 ≤ wr.heap.size)
  case atStart => exact ⟨_, [], RG0.out, World.ownsRow_nil _ _ _ _, G0.out, B0.out, hsz0⟩
  case round =>
    obtain ⟨left, l, HR, HE, HG, HB, hsz⟩ := hrel
    have hrg := HR.out
    go_wp2_with (first
      | (at_next; refine wpList_next_ranges _ rfl _ rfl 3 keyed3 ptrElem (Value.int .i64) ptrV (fun key kl hkey => by obtain ⟨x, rfl, _⟩ := Maps.keyOf_int_inv Tryz.underlying3 hkey; exact ⟨x, rfl⟩) (fun v y hv => by obtain ⟨x, rfl, _⟩ := ptrElem_inv hv; exact ⟨x, rfl⟩) c.tm W.heap.size nn D left _ rfl hrg ?_ ?_)
      | fail)
    · intro hc0 hl0
      have GE := HG.out
      have hl64 := GE.few MN.out HN.out
      have SRT := hid (sort_any HE.out (by omega))
      have HL0 := hid hl0
      clear hrg hl0 hc0 GE
      go_wp2_with (go_at_call 121; refine SRT.out.mono ?_; rintro e w2 ⟨rfl, l', p1, p2, p3, p4⟩)
      go_ret
      refine ⟨_, l', rfl, World.ownsRow.mono p3 (Nat.le_succ _), ?_, fun x => ?_, ?_⟩
      · have hap : l'.Pairwise (fun x y => x.1 ≠ y.1) := (p1.pairwise_iff (fun q => Ne.symm q)).2 HG.out.ap
        exact (p2.and hap).imp fun ⟨q1, q2⟩ => by omega
      · rw [p1.mem_iff, HG.out.mem x]
        exact ⟨fun ⟨n, own, e1, _, e3⟩ => ⟨n, own, e1, e3⟩, fun ⟨n, own, e1, e3⟩ => ⟨n, own, e1, HL0.out _, e3⟩⟩
      · exact HB.out.trans (p4.below (B := W.heap.size) (fun k hk => by have := (World.ownsRow.lt HE.out k hk).1; omega) (by omega))
    · intro x o kl y ps w1 cnt1 hkey hleft hR hat hrg1 hlt hg1 hs1 hen
      obtain ⟨n, own, rfl, rfl, htab, rfl⟩ := next_tab HH.out hkey hR hat
      have B1 : Below W.heap.size W w1 := HB.out.trans ⟨hg1.os, hg1.tape, hg1.output, hg1.size, fun k hk => hg1.block k (by omega) (by simp; omega)⟩
      have CC := hid (HCC.out n own htab w1 B1)
      have HB1 := hid B1
      have hne : ∀ k, u5.ownBlock = some k → W.heap.size + 1 ≤ k := fun k hk => (World.ownsRow.lt HE.out k hk).1
      have E1 : Hid (Ents (W.heap.size + 1) w1 u5 l) := World.ownsRow.kept HE.out hg1 (by
        cases hob : u5.ownBlock with
        | none => exact Or.inl rfl
        | some g => exact Or.inr (fun e => by have := hne g hob; simp at e; omega))
      have G1 := hid (HG.out.step MN.out htab hleft)
      have RG1 := hid hrg1
      have hsz1 : W.heap.size + 1 ≤ w1.heap.size := by omega
      obtain ⟨tb, htb⟩ : ∃ tb, tb = (c.tv n).tb := ⟨_, rfl⟩
      rw [← htb] at CC hen ⊢
      dsimp only [ptrV] at hen ⊢
      clear hrg hrg1 hkey hR hat hleft hg1 hs1 B1 htb
      go_wp2_with fail
      refine CC.out.mono ?_
      rintro e w2 ⟨v, rfl, hv, hb⟩
      have E2 := hid (Ents.later E1.out hb)
      have V2 := hid hv
      have R2 := hid (RG1.out.kept (row := none) ⟨hb.os, hb.tape, hb.output, hb.size, fun k hk _ => hb.block k hk⟩ (by simp) (by simp))
      have B2 := hid (HB1.out.trans (hb.mono HB1.out.size))
      have hsz2 : W.heap.size + 1 ≤ w2.heap.size := by have := hb.size; omega
      have hl2 : l.length + (mt n).length ≤ 2000 := by
        have := G1.out.few MN.out HN.out
        rw [List.length_append] at this
        omega
      clear hv hb CC E1 hen htab
      go_wp2_with (at_builtin; refine wpList_ents rfl _ _ rfl E2.out V2.out hl2 hsz2 rfl rfl ?_; intro v4 w4 H4 S4)
      go_roundg cnt1
      case measure => exact hlt
      case rel =>
        refine ⟨_, l ++ mt n, R2.out.kept S4.out (fun e => ?_) (fun e => ?_), H4.out, G1.out, ?_, ?_⟩
        · have := hne c.tm e.symm; omega
        · have := hne W.heap.size e.symm; omega
        · exact B2.out.trans ((St.of_grown (S := fun k => u5.ownBlock = some k) S4.out fun k e => e).below (B := W.heap.size) (fun k hk => by have := hne k hk; omega) (by omega))
        · have := S4.out.size; omega
end Go.Proofs.YtagjmggiaffihaaGreatDoor.So
namespace Go.Proofs.YtagjmggiaffihaaGreatDoor.So
open Go.RowKit Go.Shelf Go.Maps
open Go.Proofs.YtagjmggiaffihaaGreatDoor.Co (I64 I64_mid)
open Go.Proofs.YtagjmggiaffihaaGreatDoor.At (St bAl cell_blk blk_seen blk_free an mtB within_nat bits_and32 cast_beq0)
open Go.Proofs.YtagjmggiaffihaaGreatDoor.Ro (Ents entCells entCells_len)
open Go.Proofs.YtagjmggiaffihaaGreatDoor.Rs (SD mskP)
theorem enters_match1 : ∀ args w, (callFunc 86 args).run Tryz.prog w = .ok (.enter 86 args) w := enters_of Tryz.func86 (by kernel_rfl) rfl
set_option maxHeartbeats 1600000 in
set_option maxRecDepth 100000 in
theorem match1_any {W : World} {tb m : Nat} {ov : Value} (c0 : W.cell? ⟨tb, 0, none⟩ = some (.int .u32 (m : Int))) (c1 : W.cell? ⟨tb, 1, none⟩ = some ov) (hov : ∃ a l c, ov = .slice a l c) (a b : Nat) (hm : m < 4294967296) (ha : a < 4294967296) (hb : b < 4294967296) (xa xb : Nat) (y0 : W.cell? ⟨xa, 0, none⟩ = some (.int .u32 (a : Int))) (y1 : W.cell? ⟨xb, 0, none⟩ = some (.int .u32 (b : Int))) :
    Calls Tryz.prog 86 #[.pointer (some ⟨tb, 0, none⟩), .pointer (some ⟨xa, 0, none⟩), .pointer (some ⟨xb, 0, none⟩)] W fun e W' => e = .returned (if mtB a b m = true then ov else .slice none 0 0) ∧ Below W.heap.size W W' := by
  obtain ⟨oa, ol, oc, rfl⟩ := hov
  have WN := hid (fun w => within_nat a m ha hm w)
  have ba := hid (bits_and32 m b hm hb)
  have KK : Hid (∀ W', Below W.heap.size W W' → W'.cell? ⟨tb, 0, none⟩ = some (.int .u32 (m : Int)) ∧ W'.cell? ⟨tb, 1, none⟩ = some (.slice oa ol oc) ∧ W'.cell? ⟨xa, 0, none⟩ = some (.int .u32 (a : Int)) ∧ W'.cell? ⟨xb, 0, none⟩ = some (.int .u32 (b : Int))) := fun W' hb => ⟨At.seen hb (Nat.le_refl _) c0, At.seen hb (Nat.le_refl _) c1, At.seen hb (Nat.le_refl _) y0, At.seen hb (Nat.le_refl _) y1⟩
  obtain ⟨v, hv⟩ : ∃ v : Value, v = if mtB a b m = true then .slice oa ol oc else .slice none 0 0 := ⟨_, rfl⟩
  rw [← hv]
  unfold mtB at hv
  generalize decide (an a m = 0) = t1 at *
  have c2 : W.drew.cell? ⟨tb, 1, none⟩ = some (.slice oa ol oc) := c1
  clear hm ha hb
  cases t1 with
  | false =>
    rw [Bool.false_and, if_neg (by decide)] at hv
    subst hv
    clear ba
    go_enter Tryz.func86, Tryz.ntmps86
    go_wp2_with fail
    go_quiet ((go_at_call 87; exact Calls.quiet_of_same (WN.out _)))
    all_goals
      go_wp2_with fail
      go_ret
      exact ⟨rfl, At.drewN_below _ _⟩
  | true =>
    rw [Bool.true_and] at hv
    by_cases hz : m &&& b = 0
    · have q : (bits .and .u32 (m : Int) (b : Int) == 0) = true := by rw [ba.out, hz]; rfl
      rw [decide_eq_true hz, if_pos rfl] at hv
      subst hv
      clear hz ba
      go_enter Tryz.func86, Tryz.ntmps86
      go_wp2_with fail
      go_region_held3 (fun W' => W'.cell? ⟨tb, 0, none⟩ = some (.int .u32 (m : Int)) ∧ W'.cell? ⟨tb, 1, none⟩ = some (.slice oa ol oc) ∧ W'.cell? ⟨xa, 0, none⟩ = some (.int .u32 (a : Int)) ∧ W'.cell? ⟨xb, 0, none⟩ = some (.int .u32 (b : Int))) (first | exact KK.out _ (Below.refl _ _).drew | exact KK.out _ (Below.refl _ _))
        ((go_at_call 87; refine (WN.out _).mono ?_; rintro e w1 ⟨rfl, hq⟩; obtain rfl := hq.symm))
      all_goals
        go_wp2_with fail
        go_ret
        exact ⟨rfl, (Below.refl _ _).drew⟩
    · have q : (bits .and .u32 (m : Int) (b : Int) == 0) = false := by rw [ba.out, cast_beq0]; exact decide_eq_false hz
      rw [decide_eq_false hz, if_neg (by decide)] at hv
      subst hv
      clear hz ba
      go_enter Tryz.func86, Tryz.ntmps86
      go_wp2_with fail
      go_region_held3 (fun W' => W'.cell? ⟨tb, 0, none⟩ = some (.int .u32 (m : Int)) ∧ W'.cell? ⟨tb, 1, none⟩ = some (.slice oa ol oc) ∧ W'.cell? ⟨xa, 0, none⟩ = some (.int .u32 (a : Int)) ∧ W'.cell? ⟨xb, 0, none⟩ = some (.int .u32 (b : Int))) (first | exact KK.out _ (Below.refl _ _).drew | exact KK.out _ (Below.refl _ _))
        ((go_at_call 87; refine (WN.out _).mono ?_; rintro e w1 ⟨rfl, hq⟩; obtain rfl := hq.symm))
      all_goals
        go_wp2_with fail
        go_ret
        exact ⟨rfl, (Below.refl _ _).drew⟩
end Go.Proofs.YtagjmggiaffihaaGreatDoor.So
namespace Go.Proofs.YtagjmggiaffihaaGreatDoor.So
open Go.RowKit Go.Shelf Go.Maps
open Go.Proofs.YtagjmggiaffihaaGreatDoor.Co (I64 I64_mid)
open Go.Proofs.YtagjmggiaffihaaGreatDoor.At (St bAl cell_blk blk_seen blk_free an mtB)
open Go.Proofs.YtagjmggiaffihaaGreatDoor.Ro (RS Ents entCells entCells_len)
open Go.Proofs.YtagjmggiaffihaaGreatDoor.Rs (SD mskP)
theorem upto_sorted (r : RS) (k : Nat) : (r.upto k).Pairwise (fun x y => x.1 < y.1) := by
  induction k with
  | zero => simp [RS.upto]
  | succ k ih =>
    unfold RS.upto
    split
    · exact ih
    · exact List.pairwise_append.2 ⟨ih, by simp, fun x hx y hy => by simp at hy; subst hy; exact (RS.upto_mem hx).1⟩
theorem upto_iff (r : RS) (k : Nat) (p : Nat × Nat) : p ∈ r.upto k ↔ p.1 < k ∧ p.1 ∉ r.free ∧ p.2 = r.gens.getD p.1 0 := by
  refine ⟨RS.upto_mem, ?_⟩
  induction k with
  | zero => rintro ⟨h, -⟩; omega
  | succ k ih =>
    rintro ⟨h1, h2, h3⟩
    unfold RS.upto
    by_cases e : p.1 = k
    · rw [if_neg (by rw [← e]; exact h2), List.mem_append]
      refine .inr ?_
      obtain ⟨a, b⟩ := p
      change a = k at e
      subst e
      simpa using h3
    · have q := ih ⟨by omega, h2, h3⟩
      split
      · exact q
      · exact List.mem_append.2 (.inl q)
theorem all_iff (s : SD) (p : Nat × Nat) : p ∈ s.r.all ↔ al s p.1 p.2 := by
  unfold RS.all
  rw [upto_iff, al_iff]
  constructor
  · rintro ⟨h1, h2, h3⟩
    refine ⟨h2, ?_⟩
    rw [List.getElem?_eq_getElem h1, h3, List.getD_eq_getElem?_getD, List.getElem?_eq_getElem h1]
    rfl
  · rintro ⟨h1, h2⟩
    obtain ⟨h3, h4⟩ := List.getElem?_eq_some_iff.1 h2
    exact ⟨h3, h1, by rw [List.getD_eq_getElem?_getD, h2]; rfl⟩
/-- Who matches. -/
def matched (s : SD) (a b : Nat) : List (Nat × Nat) := s.r.all.filter fun x => mtB a b (mskP (s.at x.1))
/-- What of a table matches. -/
def mtM (tab : Nat → Option (List (Nat × Nat))) (sets : List Nat) (a b n : Nat) : List (Nat × Nat) := if mtB a b (sets.getD n 0) = true then (tab n).getD [] else []
theorem sets_at {l : List Nat} {n m : Nat} (h : l[n]? = some m) : l.getD n 0 = m := by rw [List.getD_eq_getElem?_getD, h]; rfl
theorem gathered {ex : Option Nat} {B : Nat} {W : World} {sb : Nat} {c : CV} {s : SD} (h : Sto ex B W sb c s) (he : ex = none) {l : List (Nat × Nat)} {mt : Nat → List (Nat × Nat)} {f : Nat × Nat → Bool} (hs : l.Pairwise (fun x y => x.1 < y.1)) (hm : ∀ x, x ∈ l ↔ ∃ n own, c.tab n = some own ∧ x ∈ mt n)
    (hf : ∀ n own x, c.tab n = some own → (x ∈ mt n ↔ x ∈ own ∧ f x = true)) : l = s.r.all.filter f := by
  subst he
  refine ext_key (fun x => x.1) hs ((upto_sorted _ _).filter _) fun x => ?_
  rw [hm x, List.mem_filter, all_iff]
  constructor
  · rintro ⟨n, own, e1, e2⟩
    obtain ⟨q1, q2⟩ := (hf n own x e1).1 e2
    obtain ⟨j, hj⟩ := List.getElem?_of_mem q1
    exact ⟨((h.lk.back n own e1).2 j x.1 x.2 hj).1, q2⟩
  · rintro ⟨e1, e2⟩
    obtain ⟨n, j, own, -, q2, q3, -⟩ := h.lk.here x.1 x.2 e1 (by simp)
    exact ⟨n, own, q2, (hf n own x q2).2 ⟨List.mem_of_getElem? q3, e2⟩⟩
set_option maxHeartbeats 1600000 in
set_option maxRecDepth 100000 in
theorem smatch_any {B : Nat} {W : World} {sb : Nat} {c : CV} {s : SD} (h : Sto none B W sb c s) (a b : Nat) (ha : a < 4294967296) (hb : b < 4294967296) :
    Calls Tryz.prog 30 #[.pointer (some ⟨sb, 0, none⟩), .int .u32 (a : Int), .int .u32 (b : Int)] W fun e W' => ∃ v, e = .returned v ∧ Ents W.heap.size W' v (matched s a b) ∧ Below W.heap.size W W' := by
  obtain ⟨w1, hw1⟩ : ∃ w1, w1 = (W.alloc (.cells #[.int .u32 (a : Int)] 49)).alloc (.cells #[.int .u32 (b : Int)] 49) := ⟨_, rfl⟩
  obtain ⟨b1, r1, p1⟩ := Rs.two_blk W #[.int .u32 (a : Int)] #[.int .u32 (b : Int)] 49 49
  rw [← hw1] at b1 r1 p1
  have h1 := h.later b1
  have GA := hid (gather_any 86 #[.pointer (some ⟨W.heap.size, 0, none⟩), .pointer (some ⟨W.heap.size + 1, 0, none⟩)] enters_match1 h1 (mtM c.tab s.sets a b) (fun n own hn => by
      unfold mtM
      rw [hn]
      split
      · exact List.Sublist.refl _
      · exact List.nil_sublist _) (fun n own hn W' hb' => by
      obtain ⟨m, e1, tb⟩ := (h1.later hb').tabs n own hn
      have hm16 := (h1.later hb').atl.ok.u16 (List.mem_of_getElem? e1)
      obtain ⟨oa, oc, ho⟩ := tb.own.slice
      refine (match1_any tb.c0 tb.c1 ⟨_, _, _, ho⟩ a b (by have : m < 65536 := hm16; omega) ha hb W.heap.size (W.heap.size + 1) (cell_blk (blk_seen hb' (Nat.le_refl _) r1) rfl) (cell_blk (blk_seen hb' (Nat.le_refl _) p1) rfl)).mono ?_
      rintro e W2 ⟨rfl, hb2⟩
      refine ⟨_, rfl, ?_, hb2⟩
      unfold mtM
      rw [sets_at e1, hn]
      split
      · exact World.ownsRow.mono (Ents.later tb.own hb2) (Nat.zero_le _)
      · exact World.ownsRow_nil _ _ _ _))
  have FI : Hid (∀ l : List (Nat × Nat), l.Pairwise (fun x y => x.1 < y.1) → (∀ x, x ∈ l ↔ ∃ n own, c.tab n = some own ∧ x ∈ mtM c.tab s.sets a b n) → l = matched s a b) := fun l hs hm => gathered h rfl hs hm fun n own x hn => by
    unfold mtM
    constructor
    · intro hx
      split at hx
      · rename_i hq
        rw [hn] at hx
        obtain ⟨j, hj⟩ := List.getElem?_of_mem hx
        have := ((h.lk.back n own hn).2 j x.1 x.2 hj).2.2.2
        rw [sets_at this] at hq
        exact ⟨hx, hq⟩
      · simp at hx
    · rintro ⟨hx, hq⟩
      obtain ⟨j, hj⟩ := List.getElem?_of_mem hx
      have := ((h.lk.back n own hn).2 j x.1 x.2 hj).2.2.2
      rw [sets_at this, if_pos hq, hn]
      exact hx
  have HW1 := hid hw1
  have B1 := hid b1
  clear hw1 b1 r1 p1 h h1 ha hb
  go_enter Tryz.func30, Tryz.ntmps30
  go_upto_region 1 with fail
  rw [← HW1.out]
  go_wp2_with fail
  refine GA.out.mono ?_
  rintro e w2 ⟨v, l, rfl, e1, e2, e3, e4⟩
  have R := FI.out l e2 e3
  have E := hid (World.ownsRow.mono (base' := W.heap.size) e1 B1.out.size)
  have B2 := hid (B1.out.trans (e4.mono B1.out.size))
  subst R
  clear e1 e2 e3 e4 GA
  go_wp2_with fail
  go_ret
  exact ⟨_, rfl, E.out, B2.out⟩
theorem smatch_nil (a b : Int) (W : World) : Calls Tryz.prog 30 #[.pointer none, .int .u32 a, .int .u32 b] W fun e W' => e = .returned (.slice none 0 0) ∧ Below W.heap.size W W' := by
  obtain ⟨w1, hw1⟩ : ∃ w1, w1 = (W.alloc (.cells #[.int .u32 a] 49)).alloc (.cells #[.int .u32 b] 49) := ⟨_, rfl⟩
  obtain ⟨b1, -, -⟩ := Rs.two_blk W #[.int .u32 a] #[.int .u32 b] 49 49
  rw [← hw1] at b1
  have GN := hid fun fv => gather_nil fv w1
  have HW1 := hid hw1
  have B1 := hid b1
  clear hw1 b1
  go_enter Tryz.func30, Tryz.ntmps30
  go_upto_region 1 with fail
  rw [← HW1.out]
  go_wp2_with fail
  refine (GN.out _).mono ?_
  rintro e w2 ⟨rfl, hq⟩
  obtain rfl := hq.symm
  go_wp2_with fail
  go_ret
  exact ⟨rfl, B1.out⟩
end Go.Proofs.YtagjmggiaffihaaGreatDoor.So
namespace Go.Proofs.YtagjmggiaffihaaGreatDoor.So
open Go.RowKit Go.Shelf Go.Maps
open Go.Proofs.YtagjmggiaffihaaGreatDoor.Co (I64 I64_mid Pt Col CS)
open Go.Proofs.YtagjmggiaffihaaGreatDoor.At (St bAl cell_blk blk_seen blk_free Ints)
open Go.Proofs.YtagjmggiaffihaaGreatDoor.Ro (RS Ents entCells entCells_len wpList_ent)
open Go.Proofs.YtagjmggiaffihaaGreatDoor.Rs (SD mskP)
theorem enters_changed1 : ∀ args w, (callFunc 88 args).run Tryz.prog w = .ok (.enter 88 args) w := enters_of Tryz.func88 (by kernel_rfl) rfl
/-- The owners of rows. -/
def owners (own : List (Nat × Nat)) (l : List Nat) : List (Nat × Nat) := l.map fun j => own.getD j (0, 0)
theorem ints_ent {B B' : Nat} {W : World} {v u : Value} {l : List Nat} {q : List (Nat × Nat)} (h : Ints B W v l) (h' : Ents B' W u q) {k : Nat} (hv : v.ownBlock = some k) : u.ownBlock ≠ some k := fun hu => by
  obtain ⟨c, e⟩ := own_blk h hv
  obtain ⟨c', e'⟩ := own_blk h' hu
  rw [e] at e'
  simp at e'
set_option maxHeartbeats 3200000 in
set_option maxRecDepth 100000 in
theorem changed1_any {W : World} {tb cm : Nat} {own : List (Nat × Nat)} {B : Nat} {ov pv : Value} {comp fr : Int} {L : List Nat} {xa xb : Nat} (c1 : W.cell? ⟨tb, 1, none⟩ = some ov) (ho : Ents B W ov own)
    (hread : ∀ W', Below W.heap.size W W' → W'.cell? ⟨tb, 2, none⟩ = some (.map (some cm)) ∧ W'.cell? ⟨xa, 0, none⟩ = some (.int .i64 comp) ∧ W'.cell? ⟨xb, 0, none⟩ = some (.int .i64 fr) ∧ (Instr.lookup 150 (.map (some cm)) (.int .i64 comp) false).run Tryz.prog W' = .ok pv W')
    (SN : ∀ W', Below W.heap.size W W' → Calls Tryz.prog 89 #[pv, .int .i64 fr] W' fun e W2 => ∃ v, e = .returned v ∧ Ints W.heap.size W2 v L ∧ Below W.heap.size W W2)
    (hL : L.length ≤ 64) (hLj : ∀ j ∈ L, j < own.length) :
    Calls Tryz.prog 88 #[.pointer (some ⟨tb, 0, none⟩), .pointer (some ⟨xa, 0, none⟩), .pointer (some ⟨xb, 0, none⟩)] W fun e W' => ∃ v, e = .returned v ∧ Ents W.heap.size W' v (owners own L) ∧ Below W.heap.size W W' := by
  have C1 := hid c1
  have HO := hid ho
  have KK := hid hread
  have SS := hid SN
  have HJ := hid hLj
  have hLi : (L.length : Int) ≤ 64 := by omega
  clear c1 ho hread SN hLj
  go_enter Tryz.func88, Tryz.ntmps88
  go_wp2_with fail
  go_region_held3 (fun W' => W'.cell? ⟨tb, 2, none⟩ = some (.map (some cm)) ∧ W'.cell? ⟨xa, 0, none⟩ = some (.int .i64 comp) ∧ W'.cell? ⟨xb, 0, none⟩ = some (.int .i64 fr) ∧ (Instr.lookup 150 (.map (some cm)) (.int .i64 comp) false).run Tryz.prog W' = .ok pv W') (first | exact KK.out _ (Below.refl _ _).drew | exact KK.out _ (Below.refl _ _) | exact KK.out _ B2.out)
    ((go_at_call 89; refine (SS.out _ (by first | exact (Below.refl _ _).drew | exact Below.refl _ _)).mono ?_; rintro e w2 ⟨v, rfl, hv, hb⟩; obtain ⟨la, lc, rfl⟩ := hv.slice; have V2 := hid hv; have B2 := hid hb; clear hv hb))
  go_wp2_with fail
  go_loopg [5, 7, 17] L.length (fun gh lv _ i wr => ∃ k : Nat, k ≤ L.length ∧ gh = L.length - k ∧ i = .int .i64 (k : Int) ∧ Hid (Ents W.heap.size wr lv (owners own (L.take k))) ∧ Hid (Ints W.heap.size wr (.slice la L.length lc) L) ∧ Hid (Below W.heap.size W wr))
  case atStart => exact ⟨0, Nat.zero_le _, rfl, rfl, World.ownsRow_nil _ _ _ _, V2.out, B2.out⟩
  case round =>
    obtain ⟨k, hk, rfl, rfl, HE, HV, HB⟩ := hrel
    by_cases hlt : k < L.length
    · have hki : (k : Int) < (L.length : Int) := by omega
      obtain ⟨j, hj⟩ := at_lt L k hlt
      obtain ⟨g, rfl, -, -⟩ := HV.out.some (by omega)
      have x1 := HV.out.cell hj
      have hjo := HJ.out j (List.mem_of_getElem? hj)
      have hjI : (j : Int) < (own.length : Int) := by omega
      have HO2 := Ents.later HO.out HB.out
      obtain ⟨oa, oc, hov⟩ := HO2.slice
      obtain ⟨og, hog⟩ : ∃ og, oa = some ⟨og, 0, none⟩ := by
        rcases HO2.2 with ⟨q1, q2⟩ | ⟨g', cap, cur, q1, -⟩
        · omega
        · rw [hov] at q1; exact ⟨g', by simpa using (Value.slice.inj q1).1⟩
      subst hog
      rw [hov] at HO2
      obtain ⟨p, hp⟩ := at_lt own j hjo
      obtain ⟨e0, e1⟩ := ent_at hp
      have y0 : wr.cell? ⟨og, j * 2, none⟩ = some (.int .i64 (p.1 : Int)) := (World.ownsRow.cellAt HO2 (j * 2) (by omega)).trans e0
      have y1 : wr.cell? ⟨og, j * 2 + 1, none⟩ = some (.int .i64 (p.2 : Int)) := (World.ownsRow.cellAt HO2 (j * 2 + 1) (by omega)).trans e1
      have y2 := At.seen HB.out (Nat.le_refl _) C1.out
      rw [hov] at y2
      have HT : Hid (owners own (L.take (k + 1)) = owners own (L.take k) ++ [(p.1, p.2)]) := by
        show _ = _
        unfold owners
        rw [List.take_add_one, hj, List.map_append]
        congr 1
        simp only [Option.toList, List.map_cons, List.map_nil]
        rw [List.getD_eq_getElem?_getD, hp]
        rfl
      obtain ⟨q, hq⟩ : ∃ q, q = owners own (L.take k) := ⟨_, rfl⟩
      have hql : q.length ≤ 1000 := by rw [hq]; unfold owners; simp; omega
      have HEq : Hid (Ents W.heap.size wr u5 q) := by show Ents _ _ _ _; rw [hq]; exact HE.out
      have HQ := hid hq
      have hwr : W.heap.size ≤ wr.heap.size := HB.out.size
      clear hj hp e0 e1 HO2 hov hjo hq HE
      go_wp2_with (at_builtin; refine wpList_ent (k := p.1) (g := p.2) rfl _ _ rfl HEq.out hql hwr rfl rfl ?_; intro v4 w4 H4 S4 O4)
      go_roundg (L.length - (k + 1))
      case measure => omega
      case rel =>
        have s4 := ro_st' S4.out
        refine ⟨k + 1, by omega, rfl, by go_num, ?_, ?_, ?_⟩
        · show Ents _ _ _ _
          rw [HT.out, ← HQ.out]
          exact H4.out
        · exact own_kept HV.out s4 fun y hy e => ints_ent HV.out HEq.out hy e
        · exact HB.out.trans (s4.below (B := W.heap.size) (fun y hy => (World.ownsRow.lt HEq.out y hy).1) hwr)
    · have hki : ¬ ((k : Int) < (L.length : Int)) := by omega
      obtain rfl : k = L.length := by omega
      have E := HE.out
      rw [List.take_length] at E
      have HE2 := hid E
      clear E HE
      go_wp2_with fail
      go_ret
      exact ⟨_, rfl, HE2.out, HB.out⟩
end Go.Proofs.YtagjmggiaffihaaGreatDoor.So
namespace Go.Proofs.YtagjmggiaffihaaGreatDoor.So
open Go.RowKit Go.Shelf Go.Maps
open Go.Proofs.YtagjmggiaffihaaGreatDoor.Co (I64 I64_mid Pt Col CS since since_len tickAt)
open Go.Proofs.YtagjmggiaffihaaGreatDoor.At (St bAl cell_blk blk_seen blk_free Ints)
open Go.Proofs.YtagjmggiaffihaaGreatDoor.Ro (RS Ents entCells entCells_len)
open Go.Proofs.YtagjmggiaffihaaGreatDoor.Rs (SD mskP Prt)
theorem since_mem (l : List Pt) (f : Int) (k j : Nat) : j ∈ since l f k ↔ j < k ∧ f ≤ tickAt l (j : Int) := by
  induction k with
  | zero => simp [since]
  | succ k ih =>
    unfold since
    split
    · rename_i h
      rw [List.mem_append, ih]
      simp only [List.mem_singleton]
      constructor
      · rintro (⟨h1, h2⟩ | rfl)
        · exact ⟨by omega, h2⟩
        · exact ⟨by omega, h⟩
      · rintro ⟨h1, h2⟩
        by_cases e : j = k
        · exact .inr e
        · exact .inl ⟨by omega, h2⟩
    · rename_i h
      rw [ih]
      constructor
      · rintro ⟨h1, h2⟩; exact ⟨by omega, h2⟩
      · rintro ⟨h1, h2⟩
        refine ⟨Nat.lt_of_le_of_ne (by omega) fun e => h (by rw [← e]; exact h2), h2⟩
theorem owners_sub (own : List (Nat × Nat)) (l : List Pt) (f : Int) (k : Nat) (hk : k ≤ own.length) : (owners own (since l f k)).Sublist (own.take k) := by
  induction k with
  | zero => simp [since, owners]
  | succ k ih =>
    obtain ⟨p, hp⟩ := at_lt own k (by omega)
    have e : own.take (k + 1) = own.take k ++ [p] := by rw [List.take_add_one, hp]; rfl
    rw [e]
    unfold since
    split
    · unfold owners at ih ⊢
      rw [List.map_append]
      refine (ih (by omega)).append ?_
      simp [hp]
    · exact (ih (by omega)).trans (List.sublist_append_left _ _)
/-- Whose part has been written since. -/
def chF (s : SD) (comp fr : Int) (x : Nat × Nat) : Bool := match (s.at x.1).find? (fun p => p.c == comp) with
  | some p => decide (fr ≤ p.t)
  | none => false
def changedL (s : SD) (comp fr : Int) : List (Nat × Nat) := s.r.all.filter (chF s comp fr)
def chL (s : SD) (m : Nat) (own : List (Nat × Nat)) (comp fr : Int) : List Nat := if 0 ≤ comp ∧ m.testBit comp.toNat = true then since (rowsOf s own comp.toNat) fr own.length else []
def chM (tab : Nat → Option (List (Nat × Nat))) (s : SD) (comp fr : Int) (n : Nat) : List (Nat × Nat) := owners ((tab n).getD []) (chL s (s.sets.getD n 0) ((tab n).getD []) comp fr)
theorem tick_row (s : SD) {own : List (Nat × Nat)} {j : Nat} {x : Nat × Nat} (hj : own[j]? = some x) (q : Nat) : tickAt (rowsOf s own q) (j : Int) = (ptAt (s.at x.1) q).t := by
  have e : Co.rowAt (rowsOf s own q) (j : Int) = some (ptAt (s.at x.1) q) := by
    unfold Co.rowAt rowsOf
    simp [hj]
  unfold tickAt
  rw [e]
set_option maxHeartbeats 1600000 in
set_option maxRecDepth 100000 in
theorem changed_any {B : Nat} {W : World} {sb : Nat} {c : CV} {s : SD} (h : Sto none B W sb c s) (comp fr : Int) (hc : I64 comp) :
    Calls Tryz.prog 32 #[.pointer (some ⟨sb, 0, none⟩), .int .i64 comp, .int .i64 fr] W fun e W' => ∃ v, e = .returned v ∧ Ents W.heap.size W' v (changedL s comp fr) ∧ Below W.heap.size W W' := by
  obtain ⟨w1, hw1⟩ : ∃ w1, w1 = (W.alloc (.cells #[.int .i64 comp] 3)).alloc (.cells #[.int .i64 fr] 3) := ⟨_, rfl⟩
  obtain ⟨b1, r1, p1⟩ := Rs.two_blk W #[.int .i64 comp] #[.int .i64 fr] 3 3
  rw [← hw1] at b1 r1 p1
  have h1 := h.later b1
  have hfew : ∀ n own, c.tab n = some own → own.length ≤ 64 := fun n own hn => Nat.le_trans (h.lk.few hn) h.rol.small
  have GA := hid (gather_any 88 #[.pointer (some ⟨W.heap.size, 0, none⟩), .pointer (some ⟨W.heap.size + 1, 0, none⟩)] enters_changed1 h1 (chM c.tab s comp fr) (fun n own hn => by
      unfold chM chL
      rw [hn]
      show (owners own _).Sublist own
      split
      · exact (owners_sub own _ fr own.length (Nat.le_refl _)).trans (List.take_sublist _ _)
      · exact List.nil_sublist _) (fun n own hn W' hb' => by
      obtain ⟨m, e1, tb⟩ := (h1.later hb').tabs n own hn
      have em : s.sets.getD n 0 = m := sets_at e1
      have hfew' := hfew n own hn
      refine (changed1_any (cm := (c.tv n).cm) (pv := ptrV (lk (colMap m (c.tv n).cb) comp)) (comp := comp) (fr := fr) (L := chL s m own comp fr) (xa := W.heap.size) (xb := W.heap.size + 1) tb.c1 tb.own (fun W2 hb2 => ?_) (fun W2 hb2 => ?_) ?_ ?_).mono ?_
      · obtain ⟨m', e1', tb'⟩ := ((h1.later hb').later hb2).tabs n own hn
        obtain rfl : m = m' := by rw [e1] at e1'; simpa using e1'
        exact ⟨tb'.c2, cell_blk (blk_seen hb2 (Nat.le_refl _) (blk_seen hb' (Nat.le_refl _) r1)) rfl, cell_blk (blk_seen hb2 (Nat.le_refl _) (blk_seen hb' (Nat.le_refl _) p1)) rfl, tb'.look comp hc⟩
      · obtain ⟨m', e1', tb'⟩ := ((h1.later hb').later hb2).tabs n own hn
        obtain rfl : m = m' := by rw [e1] at e1'; simpa using e1'
        unfold chL lk colMap
        by_cases hq : 0 ≤ comp ∧ m.testBit comp.toNat = true
        · rw [if_pos hq, if_pos hq.1]
          simp only [hq.2, if_true]
          obtain ⟨w, -, col⟩ := tb'.col comp.toNat hq.2
          refine (Co.col_since col fr).mono ?_
          rintro e W3 ⟨v, rfl, q1, q2⟩
          have el : (rowsOf s own comp.toNat).length = own.length := by simp [rowsOf]
          change Ints _ _ _ (since (rowsOf s own comp.toNat) fr (rowsOf s own comp.toNat).length) at q1
          rw [el] at q1
          exact ⟨v, rfl, World.ownsRow.mono (base' := W'.heap.size) q1 hb2.size, hb2.trans (q2.mono hb2.size)⟩
        · rw [if_neg hq]
          have e0 : ptrV (if 0 ≤ comp then if m.testBit comp.toNat = true then some ((c.tv n).cb comp.toNat) else none else none) = .pointer none := by
            split
            · split
              · exact absurd ⟨by assumption, by assumption⟩ hq
              · rfl
            · rfl
          rw [e0]
          refine (Co.since_nil fr W2).mono ?_
          rintro e W3 ⟨rfl, rfl⟩
          exact ⟨_, rfl, World.ownsRow_nil _ _ _ _, hb2⟩
      · unfold chL
        split
        · have := since_len (rowsOf s own comp.toNat) fr own.length; omega
        · simp
      · intro j hj
        unfold chL at hj
        split at hj
        · exact ((since_mem _ _ _ _).1 hj).1
        · simp at hj
      · rintro e W3 ⟨v, rfl, q1, q2⟩
        refine ⟨v, rfl, ?_, q2⟩
        unfold chM
        rw [hn, em]
        exact World.ownsRow.mono q1 (Nat.zero_le _)))
  have FI : Hid (∀ l : List (Nat × Nat), l.Pairwise (fun x y => x.1 < y.1) → (∀ x, x ∈ l ↔ ∃ n own, c.tab n = some own ∧ x ∈ chM c.tab s comp fr n) → l = changedL s comp fr) := fun l hs hm => gathered h rfl hs hm fun n own x hn => by
    obtain ⟨m, e1, tb⟩ := h.tabs n own hn
    unfold chM
    rw [hn, sets_at e1]
    show x ∈ owners own (chL s m own comp fr) ↔ _
    have hat : ∀ j : Nat, own[j]? = some x → (j ∈ chL s m own comp fr ↔ chF s comp fr x = true) := fun j hj => by
      obtain ⟨ha, -, -, hms⟩ := (h.lk.back n own hn).2 j x.1 x.2 hj
      have hok := h.lk.ok x.1 x.2 ha (by simp)
      obtain rfl : m = mskP (s.at x.1) := by rw [e1] at hms; simpa using hms
      have hj' := (List.getElem?_eq_some_iff.1 hj).1
      unfold chL chF
      by_cases hq : 0 ≤ comp ∧ (mskP (s.at x.1)).testBit comp.toNat = true
      · rw [if_pos hq, since_mem, tick_row s hj]
        obtain ⟨p, hp, hpc⟩ := (msk_mem (okL_pos hok.1) comp.toNat).1 hq.2
        have hpc' : p.c = comp := by omega
        have ef := find_apart (okL_apart hok.1) hp
        rw [hpc'] at ef
        rw [ef, ptAt_mem (okL_apart hok.1) hp hpc]
        simp [hj', pt]
      · rw [if_neg hq]
        rw [find_none fun p hp e => hq ?_]
        · simp
        · have h0 := okL_pos hok.1 p hp
          exact ⟨by omega, (msk_mem (okL_pos hok.1) comp.toNat).2 ⟨p, hp, by omega⟩⟩
    constructor
    · intro hx
      obtain ⟨j, hj, rfl⟩ := List.mem_map.1 hx
      have hj' : j < own.length := by
        unfold chL at hj
        split at hj
        · exact ((since_mem _ _ _ _).1 hj).1
        · simp at hj
      have e : own[j]? = some (own.getD j (0, 0)) := by rw [List.getD_eq_getElem?_getD, List.getElem?_eq_getElem hj']; rfl
      exact ⟨List.mem_of_getElem? e, (hat j e).1 hj⟩
    · rintro ⟨hx, hq⟩
      obtain ⟨j, hj⟩ := List.getElem?_of_mem hx
      refine List.mem_map.2 ⟨j, (hat j hj).2 hq, ?_⟩
      show own.getD j (0, 0) = x
      rw [List.getD_eq_getElem?_getD, hj]
      rfl
  have HW1 := hid hw1
  have B1 := hid b1
  clear hw1 b1 r1 p1 h h1 hc hfew
  go_enter Tryz.func32, Tryz.ntmps32
  go_upto_region 1 with fail
  rw [← HW1.out]
  go_wp2_with fail
  refine GA.out.mono ?_
  rintro e w2 ⟨v, l, rfl, e1, e2, e3, e4⟩
  have R := FI.out l e2 e3
  have E := hid (World.ownsRow.mono (base' := W.heap.size) e1 B1.out.size)
  have B2 := hid (B1.out.trans (e4.mono B1.out.size))
  subst R
  clear e1 e2 e3 e4 GA
  go_wp2_with fail
  go_ret
  exact ⟨_, rfl, E.out, B2.out⟩
end Go.Proofs.YtagjmggiaffihaaGreatDoor.So
namespace Go.Proofs.YtagjmggiaffihaaGreatDoor.Sc
open Go.RowKit Go.Shelf
structure Rsc where
  s : ByteArray
  n : Int
def CmpRow (W : World) (v : Value) (cs : List Cmp) : Prop := ∃ a c, v = .slice a cs.length c ∧ cs.length ≤ c ∧ (cs = [] ∨ ∃ b o, a = some ⟨b, o, none⟩ ∧ ∀ (j : Nat) (x : Cmp), cs[j]? = some x →
  W.cell? ⟨b, o + j * 7, none⟩ = some (.string x.s) ∧ W.cell? ⟨b, o + j * 7 + 1, none⟩ = some (.int .i64 x.wd) ∧ W.cell? ⟨b, o + j * 7 + 2, none⟩ = some (.bool x.rb) ∧ W.cell? ⟨b, o + j * 7 + 3, none⟩ = some (.int .i64 x.d0) ∧ W.cell? ⟨b, o + j * 7 + 4, none⟩ = some (.int .i64 x.d1) ∧ W.cell? ⟨b, o + j * 7 + 5, none⟩ = some (.int .i64 x.d2) ∧ W.cell? ⟨b, o + j * 7 + 6, none⟩ = some (.int .i64 x.d3))
def RscRow (W : World) (v : Value) (rs : List Rsc) : Prop := ∃ a c, v = .slice a rs.length c ∧ rs.length ≤ c ∧ (rs = [] ∨ ∃ b o, a = some ⟨b, o, none⟩ ∧ ∀ (j : Nat) (x : Rsc), rs[j]? = some x →
  W.cell? ⟨b, o + j * 2, none⟩ = some (.string x.s) ∧ W.cell? ⟨b, o + j * 2 + 1, none⟩ = some (.int .i64 x.n))
theorem CmpRow.later {W W' : World} {v : Value} {cs : List Cmp} (h : CmpRow W v cs) (hb : Below W.heap.size W W') : CmpRow W' v cs := by
  obtain ⟨a, c, h1, h2, h3⟩ := h
  refine ⟨a, c, h1, h2, h3.imp id ?_⟩
  rintro ⟨b, o, ha, hc⟩
  refine ⟨b, o, ha, fun j x hx => ?_⟩
  obtain ⟨c0, c1, c2, c3, c4, c5, c6⟩ := hc j x hx
  have S := fun {p : Addr} {u : Value} (h : W.cell? p = some u) => Below.seen hb (Nat.le_refl _) h
  exact ⟨S c0, S c1, S c2, S c3, S c4, S c5, S c6⟩
theorem RscRow.later {W W' : World} {v : Value} {rs : List Rsc} (h : RscRow W v rs) (hb : Below W.heap.size W W') : RscRow W' v rs := by
  obtain ⟨a, c, h1, h2, h3⟩ := h
  refine ⟨a, c, h1, h2, h3.imp id ?_⟩
  rintro ⟨b, o, ha, hc⟩
  refine ⟨b, o, ha, fun j x hx => ?_⟩
  obtain ⟨c0, c1⟩ := hc j x hx
  exact ⟨Below.seen hb (Nat.le_refl _) c0, Below.seen hb (Nat.le_refl _) c1⟩
abbrev Leaves := List (List ByteArray × Nat)
def bComps : ByteArray := ⟨#[99, 111, 109, 112, 111, 110, 101, 110, 116, 115]⟩
def bRes : ByteArray := ⟨#[114, 101, 115, 111, 117, 114, 99, 101, 115]⟩
def bName : ByteArray := ⟨#[110, 97, 109, 101]⟩
def bWidth : ByteArray := ⟨#[119, 105, 100, 116, 104]⟩
def bDefault : ByteArray := ⟨#[100, 101, 102, 97, 117, 108, 116]⟩
def at3 (l : ByteArray) (i : Nat) (p : ByteArray) (ns : List Nat) : Leaves := ns.map fun k => ([l, dig i, p], k)
def seenTo (ns : List ByteArray) : List ByteArray := ns.foldl seenB []
theorem seenTo_snoc (ns : List ByteArray) (s : ByteArray) : seenTo (ns ++ [s]) = seenB (seenTo ns) s := by simp [seenTo, List.foldl_append]
def leafC (acc : List ByteArray) (i : Nat) (c : Cmp) : Leaves := at3 bComps i bName (nErr acc c.s) ++ (at3 bComps i bWidth (wErr c) ++ at3 bComps i bDefault (dErr c))
def compL (cs : List Cmp) : Nat → Leaves
  | 0 => []
  | k + 1 => compL cs k ++ (match cs[k]? with | some c => leafC (seenTo ((cs.take k).map Cmp.s)) k c | none => [])
def resL (cs : List Cmp) (rs : List Rsc) : Nat → Leaves
  | 0 => []
  | k + 1 => resL cs rs k ++ (match rs[k]? with | some r => at3 bRes k bName (nErr (seenTo (cs.map Cmp.s ++ (rs.take k).map Rsc.s)) r.s) | none => [])
def manyL (l : ByteArray) (m n : Nat) : Leaves := if (m : Int) < (n : Int) then [([l], 4)] else []
def checkL (cs : List Cmp) (rs : List Rsc) : Leaves := manyL bComps 16 cs.length ++ compL cs cs.length ++ (manyL bRes 8 rs.length ++ resL cs rs rs.length)
theorem nErr_len (acc : List ByteArray) (s : ByteArray) : (nErr acc s).length ≤ 1 ∧ ∀ k ∈ nErr acc s, 1 ≤ k ∧ k ≤ 18 := by
  unfold nErr
  split
  · split <;> simp
  · simp
theorem wErr_len (c : Cmp) : (wErr c).length ≤ 1 ∧ ∀ k ∈ wErr c, 1 ≤ k ∧ k ≤ 18 := by
  unfold wErr
  split <;> simp
theorem dErr_len (c : Cmp) : (dErr c).length ≤ 1 ∧ ∀ k ∈ dErr c, 1 ≤ k ∧ k ≤ 18 := by
  unfold dErr
  split <;> simp
theorem at3_len (l : ByteArray) (i : Nat) (p : ByteArray) (ns : List Nat) : (at3 l i p ns).length = ns.length := by simp [at3]
theorem leafC_len (acc : List ByteArray) (i : Nat) (c : Cmp) : (leafC acc i c).length ≤ 3 := by
  have h1 := (nErr_len acc c.s).1
  have h2 := (wErr_len c).1
  have h3 := (dErr_len c).1
  simp only [leafC, List.length_append, at3_len]
  omega
theorem compL_len (cs : List Cmp) : ∀ k, (compL cs k).length ≤ 3 * k
  | 0 => by simp [compL]
  | k + 1 => by
    have ih := compL_len cs k
    simp only [compL, List.length_append]
    cases cs[k]? with
    | none => simp; omega
    | some c => have := leafC_len (seenTo ((cs.take k).map Cmp.s)) k c; simp only []; omega
theorem resL_len (cs : List Cmp) (rs : List Rsc) : ∀ k, (resL cs rs k).length ≤ k
  | 0 => by simp [resL]
  | k + 1 => by
    have ih := resL_len cs rs k
    simp only [resL, List.length_append]
    cases rs[k]? with
    | none => simp; omega
    | some r => have := (nErr_len (seenTo (cs.map Cmp.s ++ (rs.take k).map Rsc.s)) r.s).1; simp only [at3_len]; omega
/-- How Check stands: the names that are taken, the errors so far. -/
structure Ckd (Ad : Nat → Addr) (w : World) (mb B n : Nat) (acc : List ByteArray) (ev : Value) (us : List (Value × Leaves)) (wr : World) : Prop where
  map : MapN wr mb n acc
  row : wr.ownsRow B 31 1 ev us.length (us.map Prod.fst)
  nt : ∀ g, ev.ownBlock = some g → NoText wr g
  one : ∀ u ∈ us, One Ad wr.heap.size wr u.1 u.2
  bel : Below w.heap.size w wr
  low : w.heap.size ≤ mb ∧ mb < B
  high : B ≤ wr.heap.size
theorem noText_map {W : World} {mb n : Nat} {acc : List ByteArray} (h : MapN W mb n acc) : NoText W mb := by
  intro s hs
  obtain ⟨es, clock, hb, -⟩ := h
  simp [World.cell?, hb] at hs
theorem NoText.later {W W' : World} {g : Nat} (h : NoText W g) (hb : W'.heap[g]? = W.heap[g]?) : NoText W' g := fun s hs => h s ((World.cell?_of_block (a := ⟨g, 0, none⟩) hb).symm.trans hs)
variable {Ad : Nat → Addr} {w wr w1 : World} {mb B n : Nat} {acc : List ByteArray} {ev : Value} {us : List (Value × Leaves)}
theorem Ckd.later (h : Ckd Ad w mb B n acc ev us wr) (hb : Below wr.heap.size wr w1) : Ckd Ad w mb B n acc ev us w1 :=
  ⟨h.map.later hb, own_more h.row hb, fun g hg => (h.nt g hg).later (hb.block g (h.row.lt g hg).2), fun u hu => (h.one u hu).move hb hb.size, h.bel.trans (hb.mono h.bel.size), h.low, Nat.le_trans h.high hb.size⟩
theorem Ckd.took {acc' : List ByteArray} (h : Ckd Ad w mb B n acc ev us wr) (hm : MapN w1 mb (n + 1) acc') (hg : wr.grownBy w1 (some mb)) : Ckd Ad w mb B (n + 1) acc' ev us w1 := by
  have hne : ∀ g, ev.ownBlock = some g → some g ≠ some mb := fun g hgb e => by
    have := (h.row.lt g hgb).1
    have := h.low.2
    simp at e; omega
  refine ⟨hm, h.row.kept hg ?_, fun g hgb => (h.nt g hgb).later (hg.block g (h.row.lt g hgb).2 (hne g hgb)), fun u hu => (h.one u hu).grown hg (Nat.le_refl _) (noText_map h.map), ?_, h.low, Nat.le_trans h.high hg.size⟩
  · cases hb : ev.ownBlock with
    | none => exact .inl rfl
    | some g => exact .inr (hne g hb)
  · exact h.bel.grown hg h.bel.size (fun k hk => by simp at hk; rw [← hk]; exact h.low.1)
end Go.Proofs.YtagjmggiaffihaaGreatDoor.Sc
namespace Go.Proofs.YtagjmggiaffihaaGreatDoor.Sc
open Go.RowKit Go.Shelf
theorem row_cell (W : World) (vs : List Value) (e : TypeId) (j : Nat) (u : Value) (h : vs[j]? = some u) : (W.alloc (.cells vs.toArray e)).cell? ⟨W.heap.size, j, none⟩ = some u := by
  rw [cell_of_row _ _ j _ e (0, 0) (heap_alloc_new W _)]
  simpa using h
theorem Ckd.app {Ad : Nat → Addr} {w wr w2 : World} {mb B n : Nat} {acc : List ByteArray} {ev : Value} {us vs : List (Value × Leaves)} {ga : Option Addr} {gc : Nat} {y : List Value} (h : Ckd Ad w mb B n acc ev us wr) (h0 : 0 < us.length) (hv : ∀ u ∈ vs, One Ad wr.heap.size wr u.1 u.2) {o : Obj}
    (hy : y = us.map Prod.fst ++ vs.map Prod.fst) (ow : w2.ownsRow B 31 1 (.slice ga y.length gc) y.length y) (hg : (wr.alloc o).grownBy w2 ev.ownBlock) : Ckd Ad w mb B n acc (.slice ga y.length gc) (us ++ vs) w2 := by
  have b : Below wr.heap.size wr (wr.alloc o) := (Below.refl _ _).alloc (Nat.le_refl _) _
  have h1 := h.later b
  obtain ⟨a, c, rfl⟩ := own_slice h.row
  obtain ⟨g, rfl, hgB, hgl⟩ := own_some h.row h0
  have hyl : y.length = (us ++ vs).length := by rw [hy]; simp
  have hym : y = (us ++ vs).map Prod.fst := by rw [hy]; simp
  have hnt : NoText (wr.alloc o) g := h1.nt g rfl
  have hone : ∀ u ∈ us ++ vs, One Ad w2.heap.size w2 u.1 u.2 := by
    intro u hu
    rcases List.mem_append.1 hu with hu | hu
    · exact (h1.one u hu).grown hg (Nat.le_refl _) hnt
    · exact ((hv u hu).move b b.size).grown hg (Nat.le_refl _) hnt
  obtain ⟨g', rfl, hg'⟩ := own_some ow (by rw [hyl]; simp; omega)
  have hne : some mb ≠ (Value.slice (some ⟨g, 0, none⟩) us.length c).ownBlock := fun e => by
    have e' : mb = g := by simpa [Value.ownBlock] using e
    have := h.low.2
    omega
  refine ⟨World.ownsMap.kept h1.map hg hne, by rw [← hyl, ← hym]; exact ow, ?_, hone, ?_, h.low, Nat.le_trans h1.high hg.size⟩
  · intro x hx s hs
    obtain rfl : g' = x := by simpa [Value.ownBlock] using hx
    rw [ow.cellAt 0 (by rw [hyl]; simp; omega), hym] at hs
    cases us with
    | nil => simp at h0
    | cons u us => simp at hs; exact (hone u (by simp)).cell.2 s hs
  · exact h1.bel.grown hg h1.bel.size (fun k hk => by simp [Value.ownBlock] at hk; rw [← hk]; have := h.low; omega)
def flat (us : List (Value × Leaves)) : Leaves := (us.map Prod.snd).flatten
theorem flat_app (us vs : List (Value × Leaves)) : flat (us ++ vs) = flat us ++ flat vs := by simp [flat]
theorem compL_next {cs : List Cmp} {k : Nat} {c : Cmp} (h : cs[k]? = some c) : compL cs (k + 1) = compL cs k ++ leafC (seenTo ((cs.take k).map Cmp.s)) k c := by simp [compL, h]
theorem seen_next {cs : List Cmp} {k : Nat} {c : Cmp} (h : cs[k]? = some c) : seenTo ((cs.take (k + 1)).map Cmp.s) = seenB (seenTo ((cs.take k).map Cmp.s)) c.s := by
  rw [take_next h, List.map_append, List.map_cons, List.map_nil, seenTo_snoc]
/-- What great lets by. -/
def SmallC (cs : List Cmp) : Prop := cs.length ≤ 40 ∧ ∀ c ∈ cs, c.s.size ≤ 100
def SmallQ (rs : List Rsc) : Prop := rs.length ≤ 40 ∧ ∀ r ∈ rs, r.s.size ≤ 100
/-- How Check stands within a component's row of errors. -/
structure C6 (Ad : Nat → Addr) (w : World) (mb B n : Nat) (acc : List ByteArray) (ev : Value) (us : List (Value × Leaves)) (g : Nat) (x : Cmp) (vs : List (Value × Leaves)) (wc : World) : Prop where
  ck : Ckd Ad w mb B n acc ev us wc
  c0 : wc.cell? ⟨g, 0, none⟩ = some (.string x.s)
  c1 : wc.cell? ⟨g, 1, none⟩ = some (.int .i64 x.wd)
  c2 : wc.cell? ⟨g, 2, none⟩ = some (.bool x.rb)
  c3 : wc.cell? ⟨g, 3, none⟩ = some (.int .i64 x.d0)
  c4 : wc.cell? ⟨g, 4, none⟩ = some (.int .i64 x.d1)
  c5 : wc.cell? ⟨g, 5, none⟩ = some (.int .i64 x.d2)
  c6 : wc.cell? ⟨g, 6, none⟩ = some (.int .i64 x.d3)
  one : ∀ u ∈ vs, One Ad wc.heap.size wc u.1 u.2
theorem C6.later {Ad : Nat → Addr} {w wc w1 : World} {mb B n g : Nat} {acc : List ByteArray} {ev : Value} {us vs : List (Value × Leaves)} {x : Cmp} (h : C6 Ad w mb B n acc ev us g x vs wc) (hb : Below wc.heap.size wc w1) : C6 Ad w mb B n acc ev us g x vs w1 :=
  have S := fun {p : Addr} {u : Value} (h : wc.cell? p = some u) => Below.seen hb (Nat.le_refl _) h
  ⟨h.ck.later hb, S h.c0, S h.c1, S h.c2, S h.c3, S h.c4, S h.c5, S h.c6, fun u hu => (h.one u hu).move hb hb.size⟩
theorem C6.push {Ad : Nat → Addr} {w wc w1 : World} {mb B n g : Nat} {acc : List ByteArray} {ev v : Value} {us vs : List (Value × Leaves)} {x : Cmp} {L : Leaves} (h : C6 Ad w mb B n acc ev us g x vs wc) (hb : Below wc.heap.size wc w1) (ho : One Ad w1.heap.size w1 v L) : C6 Ad w mb B n acc ev us g x (vs ++ [(v, L)]) w1 :=
  have k := h.later hb
  ⟨k.ck, k.c0, k.c1, k.c2, k.c3, k.c4, k.c5, k.c6, fun u hu => by
    rcases List.mem_append.1 hu with hu | hu
    · exact k.one u hu
    · simp at hu; subst hu; exact ho⟩
theorem C6.took {Ad : Nat → Addr} {w wc w1 : World} {mb B n g : Nat} {acc acc' : List ByteArray} {ev : Value} {us vs : List (Value × Leaves)} {x : Cmp} (h : C6 Ad w mb B n acc ev us g x vs wc) (hm : MapN w1 mb (n + 1) acc') (hg : wc.grownBy w1 (some mb)) : C6 Ad w mb B (n + 1) acc' ev us g x vs w1 := by
  have hne : some g ≠ some mb := fun e => noText_map h.ck.map x.s (by simp at e; rw [← e]; exact h.c0)
  have S := fun {j : Nat} {u : Value} (h : wc.cell? ⟨g, j, none⟩ = some u) => hg.cell (a := ⟨g, j, none⟩) h hne
  exact ⟨h.ck.took hm hg, S h.c0, S h.c1, S h.c2, S h.c3, S h.c4, S h.c5, S h.c6, fun u hu => (h.one u hu).grown hg (Nat.le_refl _) (noText_map h.ck.map)⟩
def Cells7 (g : Nat) (x : Cmp) (W : World) : Prop := W.cell? ⟨g, 0, none⟩ = some (.string x.s) ∧ W.cell? ⟨g, 1, none⟩ = some (.int .i64 x.wd) ∧ W.cell? ⟨g, 2, none⟩ = some (.bool x.rb) ∧ W.cell? ⟨g, 3, none⟩ = some (.int .i64 x.d0) ∧ W.cell? ⟨g, 4, none⟩ = some (.int .i64 x.d1) ∧ W.cell? ⟨g, 5, none⟩ = some (.int .i64 x.d2) ∧ W.cell? ⟨g, 6, none⟩ = some (.int .i64 x.d3)
theorem C6.cells {Ad : Nat → Addr} {w wc : World} {mb B n g : Nat} {acc : List ByteArray} {ev : Value} {us vs : List (Value × Leaves)} {x : Cmp} (h : C6 Ad w mb B n acc ev us g x vs wc) : wc.cell? ⟨g, 0, none⟩ = some (.string x.s) ∧ wc.cell? ⟨g, 1, none⟩ = some (.int .i64 x.wd) ∧ wc.cell? ⟨g, 2, none⟩ = some (.bool x.rb) ∧ wc.cell? ⟨g, 3, none⟩ = some (.int .i64 x.d0) ∧ wc.cell? ⟨g, 4, none⟩ = some (.int .i64 x.d1) ∧ wc.cell? ⟨g, 5, none⟩ = some (.int .i64 x.d2) ∧ wc.cell? ⟨g, 6, none⟩ = some (.int .i64 x.d3) :=
  ⟨h.c0, h.c1, h.c2, h.c3, h.c4, h.c5, h.c6⟩
theorem C6.env {Ad : Nat → Addr} {w wc : World} {mb B n g : Nat} {acc : List ByteArray} {ev : Value} {us vs : List (Value × Leaves)} {x : Cmp} (h : C6 Ad w mb B n acc ev us g x vs wc) (hE : Env8 w Ad) : Env8 wc Ad := hE.later h.ck.bel
theorem C6.drew {Ad : Nat → Addr} {w wc : World} {mb B n g : Nat} {acc : List ByteArray} {ev : Value} {us vs : List (Value × Leaves)} {x : Cmp} (h : C6 Ad w mb B n acc ev us g x vs wc) : C6 Ad w mb B n acc ev us g x vs wc.drew := h.later ⟨rfl, rfl, rfl, Nat.le_refl _, fun _ _ => rfl⟩
theorem One.shape {Ad : Nat → Addr} {n₀ : Nat} {W : World} {v : Value} {L : Leaves} (h : One Ad n₀ W v L) : v.cells = #[v] := by
  rcases h with ⟨rfl, -⟩ | ⟨p, -, h⟩
  · rfl
  · obtain ⟨t, q, rfl, -⟩ := h.1.shape
    rfl
def NsOk (ns : List Nat) : Prop := ns.length ≤ 1 ∧ ∀ k ∈ ns, 1 ≤ k ∧ k ≤ 18
theorem way3 (Ad : Nat → Addr) (W : World) (l p : ByteArray) (i : Nat) (hi : i < 100) (ns : List Nat) (h : NsOk ns) :
    Calls Tryz.prog 101 #[.string l, .int .i64 (i : Int), .string p, errV Ad ns] W fun e W' => ∃ v', e = .returned v' ∧ One Ad W'.heap.size W' v' (at3 l i p ns) ∧ Below W.heap.size W W' := wayat_any Ad W l p i hi ns h.1 h.2
theorem width7 (Ad : Nat → Addr) (W : World) (hE : Env8 W Ad) (x : Cmp) : Calls Tryz.prog 103 #[.agg #[.string x.s, .int .i64 x.wd, .bool x.rb, .int .i64 x.d0, .int .i64 x.d1, .int .i64 x.d2, .int .i64 x.d3]] W fun e W' => e = .returned (errV Ad (wErr x)) ∧ Below W.heap.size W W' := width_any Ad W hE x
theorem default7 (Ad : Nat → Addr) (W : World) (hE : Env8 W Ad) (x : Cmp) : Calls Tryz.prog 104 #[.agg #[.string x.s, .int .i64 x.wd, .bool x.rb, .int .i64 x.d0, .int .i64 x.d1, .int .i64 x.d2, .int .i64 x.d3]] W fun e W' => e = .returned (errV Ad (dErr x)) ∧ Below W.heap.size W W' := default_any Ad W hE x
end Go.Proofs.YtagjmggiaffihaaGreatDoor.Sc
