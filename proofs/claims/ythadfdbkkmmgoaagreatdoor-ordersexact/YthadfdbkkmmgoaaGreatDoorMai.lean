/- Texts in one. -/
import Derived.Laws.IdiomCopy
import Derived.Test.YthadfdbkkmmgoaaGreatDoorMah
namespace Go.Proofs.YthadfdbkkmmgoaaGreatDoor.So
open Go.RowKit Go.Shelf Go.Maps
open Go.Proofs.YthadfdbkkmmgoaaGreatDoor.Co (I64 Pt Col CS I64_mid lies put6_blk put6_st put6)
open Go.Proofs.YthadfdbkkmmgoaaGreatDoor.At (St bAl cell_blk blk_seen blk_free Ints Err at_err err_leaf)
open Go.Proofs.YthadfdbkkmmgoaaGreatDoor.Rs (Prt SD mskP)
/-- The world in which part begins. -/
def pw (W : World) (i g : Int) : World := (W.alloc (.cells #[.int .i64 i, .int .i64 g] 144)).alloc (.cells #[.int .i64 0, .int .i64 0, .int .i64 0, .int .i64 0, .int .i64 0, .int .i64 0] 89)
theorem pw_facts (W : World) (i g : Int) : Below W.heap.size W (pw W i g) ∧ (pw W i g).heap[W.heap.size]? = some (.cells #[.int .i64 i, .int .i64 g] 144 (0, 0)) ∧ (pw W i g).heap[W.heap.size + 1]? = some (.cells (Pt.zero.arr 0) 89 (0, 0)) ∧ (pw W i g).heap.size = W.heap.size + 2 := by
  obtain ⟨a, b, c⟩ := Rs.two_blk W #[.int .i64 i, .int .i64 g] #[.int .i64 0, .int .i64 0, .int .i64 0, .int .i64 0, .int .i64 0, .int .i64 0] 144 89
  exact ⟨a, b, c, by unfold pw; simp⟩
section
variable {Ad : Nat → Addr} {W : World}
set_option maxHeartbeats 1600000 in
set_option maxRecDepth 100000 in
theorem part_err {rv : Value} {i g : Int} {k : Nat} (h : NoFind Ad W rv i g k) (comp : Int) (fv : Value) :
    Calls Tryz.prog 125 #[rv, .agg #[.int .i64 i, .int .i64 g], .int .i64 comp, fv] W fun e W' => e = .returned (.tuple #[.agg #[.int .i64 0, .int .i64 0, .int .i64 0, .int .i64 0, .int .i64 0, .int .i64 0], .iface 330 (.pointer (some (Ad k)))]) ∧ Below W.heap.size W W' := by
  obtain ⟨b1, r1, p1, z1⟩ := pw_facts W i g
  obtain ⟨w1, hw1⟩ : ∃ w1, w1 = pw W i g := ⟨_, rfl⟩
  rw [← hw1] at b1 r1 p1 z1
  have d0 := cell_blk r1 (j := 0) rfl
  have d1 := cell_blk r1 (j := 1) rfl
  have FD := hid (h w1 b1)
  have HW1 := hid hw1
  have B1 := hid b1
  have P1 := hid p1
  unfold pw at HW1
  clear hw1 b1 r1 h p1 z1
  go_enter Tryz.func125, Tryz.ntmps125
  go_upto_region 1 with fail
  rw [← HW1.out]
  go_wp2_with fail
  refine FD.out.mono ?_
  rintro e w2 ⟨rfl, hb⟩
  have B2 := hid (B1.out.trans (hb.mono B1.out.size))
  have r2 := blk_seen hb (Nat.le_refl _) P1.out
  obtain ⟨x0, x1, x2, x3, x4, x5, f0, f1, f2, f3, f4, f5⟩ := lies r2
  have HZ : Hid (put6 w2 (W.heap.size + 1) 0 Pt.zero = w2) := Co.put6_same r2
  unfold put6 at HZ
  clear hb FD r2
  go_wp2_with fail
  rw [show (((((w2.setCell ⟨W.heap.size + 1, 0, none⟩ (.int .i64 0)).setCell ⟨W.heap.size + 1, 1, none⟩ (.int .i64 0)).setCell ⟨W.heap.size + 1, 2, none⟩ (.int .i64 0)).setCell ⟨W.heap.size + 1, 3, none⟩ (.int .i64 0)).setCell ⟨W.heap.size + 1, 4, none⟩ (.int .i64 0)).setCell ⟨W.heap.size + 1, 5, none⟩ (.int .i64 0) = w2 from HZ.out]
  exact bodyPost_ret (v := .tuple #[.agg #[.int .i64 0, .int .i64 0, .int .i64 0, .int .i64 0, .int .i64 0, .int .i64 0], .iface 330 (.pointer (some (Ad k)))]) (by simp [results, Tryz.results125, go_sem, x0, x1, x2, x3, x4, x5, Pt.zero]) rfl ⟨rfl, B2.out⟩
set_option maxHeartbeats 1600000 in
set_option maxRecDepth 100000 in
theorem part_none {ex : Option Nat} {B : Nat} {sb : Nat} {c : CV} {s : SD} {i g n j m : Nat} {own : List (Nat × Nat)} {y : Nat × Nat} (h : Sto ex B W sb c s) (hE : Env8 W Ad) (ha : al s i g) (A : At1 c s i g n j m own y) (comp : Int) (hc : I64 comp) (hno : lk (colMap m (c.tv n).cb) comp = none) (fv : Value) :
    Calls Tryz.prog 125 #[.pointer (some ⟨sb, 0, none⟩), .agg #[.int .i64 (i : Int), .int .i64 (g : Int)], .int .i64 comp, fv] W fun e W' => e = .returned (.tuple #[.agg #[.int .i64 0, .int .i64 0, .int .i64 0, .int .i64 0, .int .i64 0, .int .i64 0], .iface 330 (.pointer (some (Ad 7)))]) ∧ Below W.heap.size W W' := by
  obtain ⟨b1, r1, p1, z1⟩ := pw_facts W (i : Int) (g : Int)
  obtain ⟨w1, hw1⟩ : ∃ w1, w1 = pw W (i : Int) (g : Int) := ⟨_, rfl⟩
  rw [← hw1] at b1 r1 p1 z1
  have d0 := cell_blk r1 (j := 0) rfl
  have d1 := cell_blk r1 (j := 1) rfl
  have h1 := h.later b1
  have FD := hid (find_some h1 ha A)
  have TB := hid (h1.tabOf A)
  have HE := hid (hE.later b1)
  have HW1 := hid hw1
  have B1 := hid b1
  have P1 := hid p1
  unfold pw at HW1
  obtain ⟨x, hx⟩ : ∃ x, x = c.tv n := ⟨_, rfl⟩
  rw [← hx] at FD TB hno
  have HC := hid hc
  have HNO := hid hno
  clear hw1 b1 r1 h h1 p1 z1 hE ha A hc hx hno
  go_enter Tryz.func125, Tryz.ntmps125
  go_upto_region 1 with fail
  rw [← HW1.out]
  go_wp2_with fail
  refine FD.out.mono ?_
  rintro e w2 ⟨rfl, hb⟩
  have T2 := TB.out.later hb
  have t2 := T2.c2
  have LK := T2.look_ok comp HC.out
  rw [HNO.out] at LK
  change (Instr.lookup 269 (.map (some x.cm)) (.int .i64 comp) true).run Tryz.prog w2 = .ok (.tuple #[.pointer none, .bool false]) w2 at LK
  have B2 := hid (B1.out.trans (hb.mono B1.out.size))
  have r2 := blk_seen hb (Nat.le_refl _) P1.out
  have R2 := hid r2
  obtain ⟨x0, x1, x2, x3, x4, x5, f0, f1, f2, f3, f4, f5⟩ := lies r2
  have c7 := e7 (HE.out.later hb)
  have HZ : Hid (put6 w2 (W.heap.size + 1) 0 Pt.zero = w2) := Co.put6_same r2
  unfold put6 at HZ
  have hz : (((((w2.setCell ⟨W.heap.size + 1, 0, none⟩ (.int .i64 0)).setCell ⟨W.heap.size + 1, 1, none⟩ (.int .i64 0)).setCell ⟨W.heap.size + 1, 2, none⟩ (.int .i64 0)).setCell ⟨W.heap.size + 1, 3, none⟩ (.int .i64 0)).setCell ⟨W.heap.size + 1, 4, none⟩ (.int .i64 0)).setCell ⟨W.heap.size + 1, 5, none⟩ (.int .i64 0) = w2 := HZ.out
  have K7 : Hid (w2.cell? ⟨9, 0, none⟩ = some (.iface 330 (.pointer (some (Ad 7))))) := c7
  clear hb FD r2 T2
  go_wp2_with fail
  go_region_held3 (fun W' => W'.cell? ⟨9, 0, none⟩ = some (.iface 330 (.pointer (some (Ad 7))))) (first | exact K7.out | (refine Eq.trans (congrArg (fun W' => World.cell? W' _) ?_) K7.out; exact hz)) (fail)
  have y0 : w2.drew.cell? ⟨W.heap.size + 1, 0, none⟩ = _ := x0
  have y1 : w2.drew.cell? ⟨W.heap.size + 1, 1, none⟩ = _ := x1
  have y2 : w2.drew.cell? ⟨W.heap.size + 1, 2, none⟩ = _ := x2
  have y3 : w2.drew.cell? ⟨W.heap.size + 1, 3, none⟩ = _ := x3
  have y4 : w2.drew.cell? ⟨W.heap.size + 1, 4, none⟩ = _ := x4
  have y5 : w2.drew.cell? ⟨W.heap.size + 1, 5, none⟩ = _ := x5
  clear hz x0 x1 x2 x3 x4 x5 f0 f1 f2 f3 f4 f5
  go_wp2_with fail
  exact bodyPost_ret (v := .tuple #[.agg #[.int .i64 0, .int .i64 0, .int .i64 0, .int .i64 0, .int .i64 0, .int .i64 0], .iface 330 (.pointer (some (Ad 7)))]) (by simp [results, Tryz.results125, go_sem, y0, y1, y2, y3, y4, y5, Pt.zero]) rfl ⟨rfl, B2.out.drew⟩
set_option maxHeartbeats 1600000 in
set_option maxRecDepth 100000 in
theorem part_ok {ex : Option Nat} {B : Nat} {sb : Nat} {c : CV} {s : SD} {i g n j m : Nat} {own : List (Nat × Nat)} {y : Nat × Nat} (h : Sto ex B W sb c s) (ha : al s i g) (A : At1 c s i g n j m own y) (cc : Nat) (hc16 : cc < 16) (hbit : m.testBit cc = true) (fk : Nat) (lb : Array Value) (eg : ∀ args w, (callFunc fk args).run Tryz.prog w = .ok (.enter fk args) w) (p : Pt) (Q : World → Prop)
    (hQ : ∀ w w', Q w → St (fun k => k = W.heap.size + 1) w w' → Q w')
    (HC : ∀ W', Below W.heap.size W W' → W.heap.size + 2 ≤ W'.heap.size → Calls Tryz.prog fk (#[.pointer (some ⟨(c.tv n).cb cc, 0, none⟩), .int .i64 (j : Int)] ++ lb) W' fun e W2 => e = .returned (.tuple #[p.val (cc : Int), .nilIface]) ∧ Q W2 ∧ St (fun k => k < W.heap.size) W' W2) :
    Calls Tryz.prog 125 #[.pointer (some ⟨sb, 0, none⟩), .agg #[.int .i64 (i : Int), .int .i64 (g : Int)], .int .i64 (cc : Int), .func (.func fk) #[] lb] W fun e W' => e = .returned (.tuple #[p.val (cc : Int), .nilIface]) ∧ Q W' := by
  obtain ⟨b1, r1, p1, z1⟩ := pw_facts W (i : Int) (g : Int)
  obtain ⟨w1, hw1⟩ : ∃ w1, w1 = pw W (i : Int) (g : Int) := ⟨_, rfl⟩
  rw [← hw1] at b1 r1 p1 z1
  have d0 := cell_blk r1 (j := 0) rfl
  have d1 := cell_blk r1 (j := 1) rfl
  have h1 := h.later b1
  have FD := hid (find_some h1 ha A)
  have TB := hid (h1.tabOf A)
  have HW1 := hid hw1
  have B1 := hid b1
  have P1 := hid p1
  unfold pw at HW1
  obtain ⟨x, hx⟩ : ∃ x, x = c.tv n := ⟨_, rfl⟩
  rw [← hx] at FD TB HC
  have HCC := hid HC
  have HQ := hid hQ
  have LE : lk (colMap m x.cb) (cc : Int) = some (x.cb cc) := by rw [lk_nat]; unfold colMap; rw [if_pos hbit]
  have HLE := hid LE
  unfold Pt.val at HCC ⊢
  clear hw1 b1 r1 h h1 p1 ha A hx hbit LE HC hQ
  go_enter Tryz.func125, Tryz.ntmps125
  go_upto_region 1 with fail
  rw [← HW1.out]
  go_wp2_with fail
  refine FD.out.mono ?_
  rintro e w2 ⟨rfl, hb⟩
  have T2 := TB.out.later hb
  have t2 := T2.c2
  have LK := T2.look_ok (cc : Int) (I64_mid (by omega) (by omega))
  rw [HLE.out] at LK
  change (Instr.lookup 269 (.map (some x.cm)) (.int .i64 (cc : Int)) true).run Tryz.prog w2 = .ok (.tuple #[.pointer (some ⟨x.cb cc, 0, none⟩), .bool true]) w2 at LK
  have B2 := hid (B1.out.trans (hb.mono B1.out.size))
  have CL := hid (HCC.out w2 B2.out (by have := hb.size; omega))
  have r2 := blk_seen hb (Nat.le_refl _) P1.out
  have R2 := hid r2
  clear hb FD r2 T2 HCC
  go_wp2_with fail
  refine CL.out.mono ?_
  rintro e w3 ⟨rfl, q3, s3⟩
  have r3 := s3.at R2.out (by omega)
  have R3 := hid r3
  have Q3 := hid q3
  obtain ⟨x0, x1, x2, x3, x4, x5, f0, f1, f2, f3, f4, f5⟩ := lies r3
  clear q3 s3 CL r3 LK t2
  go_wp2_with fail
  have PB := put6_blk R3.out rfl (cc : Int) p
  have PS := st_co (put6_st w3 (W.heap.size + 1) (cc : Int) p)
  unfold put6 at PB PS
  obtain ⟨d0, d1, d2, d3, d4, d5, -, -, -, -, -, -⟩ := lies PB
  generalize (((((w3.setCell ⟨W.heap.size + 1, 0, none⟩ (.int .i64 (cc : Int))).setCell ⟨W.heap.size + 1, 1, none⟩ (.int .i64 p.a)).setCell ⟨W.heap.size + 1, 2, none⟩ (.int .i64 p.b)).setCell ⟨W.heap.size + 1, 3, none⟩ (.int .i64 p.c)).setCell ⟨W.heap.size + 1, 4, none⟩ (.int .i64 p.d)).setCell ⟨W.heap.size + 1, 5, none⟩ (.int .i64 p.t) = w4 at *
  exact bodyPost_ret (v := .tuple #[.agg #[.int .i64 (cc : Int), .int .i64 p.a, .int .i64 p.b, .int .i64 p.c, .int .i64 p.d, .int .i64 p.t], .nilIface]) (by simp [results, Tryz.results125, go_sem, d0, d1, d2, d3, d4, d5]) rfl ⟨rfl, HQ.out _ _ Q3.out PS⟩
set_option maxHeartbeats 1600000 in
set_option maxRecDepth 100000 in
theorem part_bad {ex : Option Nat} {B : Nat} {sb : Nat} {c : CV} {s : SD} {i g n j m : Nat} {own : List (Nat × Nat)} {y : Nat × Nat} (h : Sto ex B W sb c s) (ha : al s i g) (A : At1 c s i g n j m own y) (cc : Nat) (hc16 : cc < 16) (hbit : m.testBit cc = true) (fk : Nat) (lb : Array Value) (eg : ∀ args w, (callFunc fk args).run Tryz.prog w = .ok (.enter fk args) w) (k : Nat) (hk : k ≠ 0)
    (HC : ∀ W', Below W.heap.size W W' → W.heap.size + 2 ≤ W'.heap.size → Calls Tryz.prog fk (#[.pointer (some ⟨(c.tv n).cb cc, 0, none⟩), .int .i64 (j : Int)] ++ lb) W' fun e W2 => ∃ t q, e = .returned (.tuple #[.agg #[.int .i64 0, .int .i64 0, .int .i64 0, .int .i64 0, .int .i64 0, .int .i64 0], .iface t q]) ∧ (∃ d, Err Ad W2 (.iface t q) k (min d 2)) ∧ Below W'.heap.size W' W2) :
    Calls Tryz.prog 125 #[.pointer (some ⟨sb, 0, none⟩), .agg #[.int .i64 (i : Int), .int .i64 (g : Int)], .int .i64 (cc : Int), .func (.func fk) #[] lb] W fun e W' => ∃ r, e = .returned (.tuple #[.agg #[.int .i64 0, .int .i64 0, .int .i64 0, .int .i64 0, .int .i64 0, .int .i64 0], r]) ∧ Er Ad W' r k 2 ∧ Below W.heap.size W W' := by
  obtain ⟨b1, r1, p1, z1⟩ := pw_facts W (i : Int) (g : Int)
  obtain ⟨w1, hw1⟩ : ∃ w1, w1 = pw W (i : Int) (g : Int) := ⟨_, rfl⟩
  rw [← hw1] at b1 r1 p1 z1
  have d0 := cell_blk r1 (j := 0) rfl
  have d1 := cell_blk r1 (j := 1) rfl
  have h1 := h.later b1
  have FD := hid (find_some h1 ha A)
  have TB := hid (h1.tabOf A)
  have HW1 := hid hw1
  have B1 := hid b1
  have P1 := hid p1
  unfold pw at HW1
  obtain ⟨x, hx⟩ : ∃ x, x = c.tv n := ⟨_, rfl⟩
  rw [← hx] at FD TB HC
  have HCC := hid HC
  have LE : lk (colMap m x.cb) (cc : Int) = some (x.cb cc) := by rw [lk_nat]; unfold colMap; rw [if_pos hbit]
  have HLE := hid LE
  clear hw1 b1 r1 h h1 p1 ha A hx hbit LE HC
  go_enter Tryz.func125, Tryz.ntmps125
  go_upto_region 1 with fail
  rw [← HW1.out]
  go_wp2_with fail
  refine FD.out.mono ?_
  rintro e w2 ⟨rfl, hb⟩
  have T2 := TB.out.later hb
  have t2 := T2.c2
  have LK := T2.look_ok (cc : Int) (I64_mid (by omega) (by omega))
  rw [HLE.out] at LK
  change (Instr.lookup 269 (.map (some x.cm)) (.int .i64 (cc : Int)) true).run Tryz.prog w2 = .ok (.tuple #[.pointer (some ⟨x.cb cc, 0, none⟩), .bool true]) w2 at LK
  have B2 := hid (B1.out.trans (hb.mono B1.out.size))
  have CL := hid (HCC.out w2 B2.out (by have := hb.size; omega))
  have r2 := blk_seen hb (Nat.le_refl _) P1.out
  have R2 := hid r2
  clear hb FD r2 T2 HCC
  go_wp2_with fail
  refine CL.out.mono ?_
  rintro e w3 ⟨t, q, rfl, q3, b3⟩
  have r3 := blk_seen b3 (Nat.le_refl _) R2.out
  have Q3 := hid q3
  have B3 := hid (B2.out.trans (b3.mono B2.out.size))
  obtain ⟨x0, x1, x2, x3, x4, x5, f0, f1, f2, f3, f4, f5⟩ := lies r3
  have HZ : Hid (put6 w3 (W.heap.size + 1) 0 Pt.zero = w3) := Co.put6_same r3
  unfold put6 at HZ
  clear q3 b3 CL r3 LK t2
  go_wp2_with fail
  rw [show (((((w3.setCell ⟨W.heap.size + 1, 0, none⟩ (.int .i64 0)).setCell ⟨W.heap.size + 1, 1, none⟩ (.int .i64 0)).setCell ⟨W.heap.size + 1, 2, none⟩ (.int .i64 0)).setCell ⟨W.heap.size + 1, 3, none⟩ (.int .i64 0)).setCell ⟨W.heap.size + 1, 4, none⟩ (.int .i64 0)).setCell ⟨W.heap.size + 1, 5, none⟩ (.int .i64 0) = w3 from HZ.out]
  obtain ⟨d, hd⟩ := Q3.out
  exact bodyPost_ret (v := .tuple #[.agg #[.int .i64 0, .int .i64 0, .int .i64 0, .int .i64 0, .int .i64 0, .int .i64 0], .iface t q]) (by simp [results, Tryz.results125, go_sem, x0, x1, x2, x3, x4, x5, Pt.zero]) rfl ⟨_, rfl, Er.of hk hd, B3.out⟩
end
end Go.Proofs.YthadfdbkkmmgoaaGreatDoor.So
namespace Go.Proofs.YthadfdbkkmmgoaaGreatDoor.So
open Go.RowKit Go.Shelf Go.Maps
open Go.Proofs.YthadfdbkkmmgoaaGreatDoor.Co (I64 Pt Col CS I64_mid lies put6_blk put6_st put6)
open Go.Proofs.YthadfdbkkmmgoaaGreatDoor.At (St bAl cell_blk blk_seen blk_free Ints Err at_err err_leaf)
open Go.Proofs.YthadfdbkkmmgoaaGreatDoor.Rs (Prt SD mskP)
/-- What is kept while the answer is laid. -/
structure Kept (RB : Nat) (Q : World → Prop) : Prop where
  later : ∀ w w', Q w → Below w.heap.size w w' → Q w'
  st : ∀ w w', Q w → St (fun k => k = RB) w w' → Q w'
theorem keep6 {w w' : World} {b cb : Nat} {a0 a1 a2 a3 a4 a5 : Value} (h : w.cell? ⟨b, 0, none⟩ = some a0 ∧ w.cell? ⟨b, 1, none⟩ = some a1 ∧ w.cell? ⟨b, 2, none⟩ = some a2 ∧ w.cell? ⟨b, 3, none⟩ = some a3 ∧ w.cell? ⟨b, 4, none⟩ = some a4 ∧ w.cell? ⟨b, 5, none⟩ = some a5) (hs : St (fun k => k = cb) w w') (hn : ¬ b = cb) :
    w'.cell? ⟨b, 0, none⟩ = some a0 ∧ w'.cell? ⟨b, 1, none⟩ = some a1 ∧ w'.cell? ⟨b, 2, none⟩ = some a2 ∧ w'.cell? ⟨b, 3, none⟩ = some a3 ∧ w'.cell? ⟨b, 4, none⟩ = some a4 ∧ w'.cell? ⟨b, 5, none⟩ = some a5 :=
  ⟨st_cell hs h.1 hn, st_cell hs h.2.1 hn, st_cell hs h.2.2.1 hn, st_cell hs h.2.2.2.1 hn, st_cell hs h.2.2.2.2.1 hn, st_cell hs h.2.2.2.2.2 hn⟩
theorem er_put {Ad : Nat → Addr} {w : World} {b k n : Nat} {r : Value} {cm : Int} {u : Pt} (hb : w.heap[b]? = some (.cells (Pt.zero.arr 0) 89 (0, 0))) (hz : k = 0 ∨ (u = Pt.zero ∧ cm = 0)) (h : Er Ad w r k n) : Er Ad (put6 w b cm u) r k n := by
  rcases hz with rfl | ⟨rfl, rfl⟩
  · exact .inl ⟨rfl, h.zero⟩
  · rw [Co.put6_same hb]; exact h
section
variable {Ad : Nat → Addr} {W : World} {Q : World → Prop}
set_option maxHeartbeats 1600000 in
set_option maxRecDepth 100000 in
theorem get_tail {rv : Value} {i g comp cm : Int} {u : Pt} {k : Nat} (hQ : Kept (W.heap.size + 1) Q) (hz : k = 0 ∨ (u = Pt.zero ∧ cm = 0))
    (HP : Calls Tryz.prog 125 #[rv, .agg #[.int .i64 i, .int .i64 g], .int .i64 comp, .func (.func 126) #[] #[]] (pw W i g) fun e W2 => ∃ r, e = .returned (.tuple #[u.val cm, r]) ∧ Er Ad W2 r k 2 ∧ Q W2 ∧ W2.heap[W.heap.size + 1]? = some (.cells (Pt.zero.arr 0) 89 (0, 0))) :
    Calls Tryz.prog 79 #[rv, .agg #[.int .i64 i, .int .i64 g], .int .i64 comp] W fun e W' => ∃ r, e = .returned (.tuple #[u.val cm, r]) ∧ Er Ad W' r k ∧ Q W' := by
  obtain ⟨b1, r1, p1, z1⟩ := pw_facts W i g
  obtain ⟨w1, hw1⟩ : ∃ w1, w1 = pw W i g := ⟨_, rfl⟩
  rw [← hw1] at b1 r1 p1 z1 HP
  have d0 := cell_blk r1 (j := 0) rfl
  have d1 := cell_blk r1 (j := 1) rfl
  have PC := hid HP
  have HW1 := hid hw1
  have HQ := hid hQ
  have HZ := hid hz
  unfold pw at HW1
  unfold Pt.val at PC ⊢
  clear hw1 b1 r1 p1 HP hQ hz z1
  go_enter Tryz.func79, Tryz.ntmps79
  go_upto_region 1 with fail
  rw [← HW1.out]
  go_wp2_with fail
  refine PC.out.mono ?_
  rintro e w2 ⟨r, rfl, hr, hq, hp⟩
  obtain ⟨w3, hw3⟩ : ∃ w3, w3 = w2.alloc (.cells #[.int .i64 cm, .int .i64 u.a, .int .i64 u.b, .int .i64 u.c, .int .i64 u.d, .int .i64 u.t] 89) := ⟨_, rfl⟩
  have b3 : Below w2.heap.size w2 w3 := by rw [hw3]; exact bAl _ _
  have v3 : w3.heap[w2.heap.size]? = some (.cells (u.arr cm) 89 (0, 0)) := by rw [hw3]; exact heap_alloc_new w2 _
  have HW3 := hid hw3
  have R3 := hid (hr.later b3)
  have Q3 := hid (HQ.out.later _ _ hq b3)
  have P3 := hid (blk_seen b3 (Nat.le_refl _) hp)
  have V3 := hid v3
  have hne : W.heap.size + 1 < w2.heap.size := (Array.getElem?_eq_some_iff.1 hp).1
  have KK : Hid (∀ W', Below w3.heap.size w3 W' → W'.cell? ⟨w2.heap.size, 0, none⟩ = some (.int .i64 cm) ∧ W'.cell? ⟨w2.heap.size, 1, none⟩ = some (.int .i64 u.a) ∧ W'.cell? ⟨w2.heap.size, 2, none⟩ = some (.int .i64 u.b) ∧ W'.cell? ⟨w2.heap.size, 3, none⟩ = some (.int .i64 u.c) ∧ W'.cell? ⟨w2.heap.size, 4, none⟩ = some (.int .i64 u.d) ∧ W'.cell? ⟨w2.heap.size, 5, none⟩ = some (.int .i64 u.t)) := fun W' hb => by
    have q := blk_seen hb (Nat.le_refl _) V3.out
    exact ⟨cell_blk q rfl, cell_blk q rfl, cell_blk q rfl, cell_blk q rfl, cell_blk q rfl, cell_blk q rfl⟩
  have AC : Hid (∀ str W', Below w3.heap.size w3 W' → Calls Tryz.prog 38 #[.string str, r] W' fun e w' => ∃ v', e = .returned v' ∧ Er Ad w' v' k ∧ Below w3.heap.size w3 w') := fun str W' hb => (at_er Ad str r k W' (m := 9) (R3.out.later hb)).mono fun e w' ⟨v', q1, q2, q3⟩ => ⟨v', q1, q2, hb.trans (q3.mono hb.size)⟩
  clear hr hq hp b3 v3 hw3 PC
  go_upto_region 2 with fail
  rw [← HW3.out]
  go_region_held3 (fun W' => W'.cell? ⟨w2.heap.size, 0, none⟩ = some (.int .i64 cm) ∧ W'.cell? ⟨w2.heap.size, 1, none⟩ = some (.int .i64 u.a) ∧ W'.cell? ⟨w2.heap.size, 2, none⟩ = some (.int .i64 u.b) ∧ W'.cell? ⟨w2.heap.size, 3, none⟩ = some (.int .i64 u.c) ∧ W'.cell? ⟨w2.heap.size, 4, none⟩ = some (.int .i64 u.d) ∧ W'.cell? ⟨w2.heap.size, 5, none⟩ = some (.int .i64 u.t))
    (first | ((conv in (World.setCell _ _ _) => skip); exact K5.out) | exact KK.out _ B4.out | exact KK.out _ (Below.refl _ _).drew | exact KK.out _ (Below.refl _ _))
    ((go_at_call 38; refine (AC.out _ _ (by first | exact (Below.refl _ _).drew | exact Below.refl _ _)).mono ?_; rintro e w4 ⟨r4, rfl, hr4, hb4⟩; have B4 := hid hb4; have R4 := hid hr4; have P4 := hid (blk_seen hb4 (Nat.le_refl _) P3.out); obtain ⟨x0, x1, x2, x3, x4, x5, f0, f1, f2, f3, f4, f5⟩ := lies P4.out; have PS := hid (st_co (put6_st w4 (W.heap.size + 1) cm u)); have K5 := hid (keep6 (KK.out _ hb4) PS.out (by omega)); unfold put6 at PS K5; clear hr4 hb4))
  have RN := hid (er_put P4.out HZ.out R4.out)
  have PB := put6_blk P4.out rfl cm u
  have QN := hid (HQ.out.st _ _ (HQ.out.later _ _ Q3.out B4.out) (st_co (put6_st w4 (W.heap.size + 1) cm u)))
  unfold put6 at PB RN QN
  obtain ⟨d0, d1, d2, d3, d4, d5, -, -, -, -, -, -⟩ := lies PB
  clear K5 KK AC PS x0 x1 x2 x3 x4 x5 f0 f1 f2 f3 f4 f5
  generalize (((((w4.setCell ⟨W.heap.size + 1, 0, none⟩ (.int .i64 cm)).setCell ⟨W.heap.size + 1, 1, none⟩ (.int .i64 u.a)).setCell ⟨W.heap.size + 1, 2, none⟩ (.int .i64 u.b)).setCell ⟨W.heap.size + 1, 3, none⟩ (.int .i64 u.c)).setCell ⟨W.heap.size + 1, 4, none⟩ (.int .i64 u.d)).setCell ⟨W.heap.size + 1, 5, none⟩ (.int .i64 u.t) = w5 at *
  go_wp2_with fail
  exact bodyPost_ret (v := .tuple #[.agg #[.int .i64 cm, .int .i64 u.a, .int .i64 u.b, .int .i64 u.c, .int .i64 u.d, .int .i64 u.t], r4]) (by simp [results, Tryz.results79, go_sem, d0, d1, d2, d3, d4, d5]) rfl ⟨_, rfl, RN.out, QN.out⟩
end
end Go.Proofs.YthadfdbkkmmgoaaGreatDoor.So
namespace Go.Proofs.YthadfdbkkmmgoaaGreatDoor.So
open Go.RowKit Go.Shelf Go.Maps
open Go.Proofs.YthadfdbkkmmgoaaGreatDoor.Co (I64 Pt Col CS I64_mid lies put6_blk put6_st put6)
open Go.Proofs.YthadfdbkkmmgoaaGreatDoor.At (St bAl cell_blk blk_seen blk_free Ints Err at_err err_leaf)
open Go.Proofs.YthadfdbkkmmgoaaGreatDoor.Rs (Prt SD mskP fitP)
/-- An entity and a part as variables. -/
def ew (W : World) (i g : Int) (p : Prt) : World := (W.alloc (.cells #[.int .i64 i, .int .i64 g] 144)).alloc (.cells #[.int .i64 p.c, .int .i64 p.v0, .int .i64 p.v1, .int .i64 p.v2, .int .i64 p.v3, .int .i64 p.t] 89)
theorem ew_facts (W : World) (i g : Int) (p : Prt) : Below W.heap.size W (ew W i g p) ∧ (ew W i g p).heap[W.heap.size]? = some (.cells #[.int .i64 i, .int .i64 g] 144 (0, 0)) ∧ (ew W i g p).heap[W.heap.size + 1]? = some (.cells p.arr 89 (0, 0)) ∧ (ew W i g p).heap.size = W.heap.size + 2 := by
  obtain ⟨a, b, c⟩ := Rs.two_blk W #[.int .i64 i, .int .i64 g] #[.int .i64 p.c, .int .i64 p.v0, .int .i64 p.v1, .int .i64 p.v2, .int .i64 p.v3, .int .i64 p.t] 144 89
  exact ⟨a, b, c, by unfold ew; simp⟩
section
variable {Ad : Nat → Addr} {W : World}
set_option maxHeartbeats 1600000 in
set_option maxRecDepth 100000 in
theorem tableFor_err {rv : Value} {i g : Int} {k : Nat} (h : NoFind Ad W rv i g k) (hk : 1 ≤ k ∧ k ≤ 18) (p : Prt) :
    Calls Tryz.prog 162 #[rv, .agg #[.int .i64 i, .int .i64 g], .agg #[.int .i64 p.c, .int .i64 p.v0, .int .i64 p.v1, .int .i64 p.v2, .int .i64 p.v3, .int .i64 p.t]] W fun e W' => ∃ r, e = .returned (.tuple #[.pointer none, r]) ∧ Er Ad W' r k 1 ∧ Below W.heap.size W W' := by
  obtain ⟨b1, r1, p1, z1⟩ := ew_facts W i g p
  obtain ⟨w1, hw1⟩ : ∃ w1, w1 = ew W i g p := ⟨_, rfl⟩
  rw [← hw1] at b1 r1 p1 z1
  have d0 := cell_blk r1 (j := 0) rfl
  have d1 := cell_blk r1 (j := 1) rfl
  have FD := hid (h w1 b1)
  have HW1 := hid hw1
  have B1 := hid b1
  unfold ew at HW1
  clear hw1 b1 r1 h p1 z1
  go_enter Tryz.func162, Tryz.ntmps162
  go_upto_region 1 with fail
  rw [← HW1.out]
  go_wp2_with fail
  refine FD.out.mono ?_
  rintro e w2 ⟨rfl, hb⟩
  have B2 := hid (B1.out.trans (hb.mono B1.out.size))
  clear hb FD
  go_wp2_with fail
  exact bodyPost_ret (v := .tuple #[.pointer none, .iface 330 (.pointer (some (Ad k)))]) (by simp [results, Tryz.results162, go_sem]) rfl ⟨_, rfl, Er.leaf Ad _ k hk, B2.out⟩
set_option maxHeartbeats 1600000 in
set_option maxRecDepth 100000 in
theorem tableFor_some {ex : Option Nat} {B : Nat} {sb : Nat} {c : CV} {s : SD} {i g n j m : Nat} {own : List (Nat × Nat)} {y : Nat × Nat} (h : Sto ex B W sb c s) (hE : Env8 W Ad) (ha : al s i g) (A : At1 c s i g n j m own y) (p : Prt) :
    Calls Tryz.prog 162 #[.pointer (some ⟨sb, 0, none⟩), .agg #[.int .i64 (i : Int), .int .i64 (g : Int)], .agg #[.int .i64 p.c, .int .i64 p.v0, .int .i64 p.v1, .int .i64 p.v2, .int .i64 p.v3, .int .i64 p.t]] W fun e W' => ∃ r, e = .returned (.tuple #[if fitP s.ws p then .pointer (some ⟨(c.tv n).tb, 0, none⟩) else .pointer none, r]) ∧ Er Ad W' r (if fitP s.ws p then 0 else 1) 1 ∧ Below W.heap.size W W' := by
  obtain ⟨b1, r1, p1, z1⟩ := ew_facts W (i : Int) (g : Int) p
  obtain ⟨w1, hw1⟩ : ∃ w1, w1 = ew W (i : Int) (g : Int) p := ⟨_, rfl⟩
  rw [← hw1] at b1 r1 p1 z1
  have d0 := cell_blk r1 (j := 0) rfl
  have d1 := cell_blk r1 (j := 1) rfl
  have h1 := h.later b1
  have FD := hid (find_some h1 ha A)
  have H1 := hid h1
  have HE := hid (hE.later b1)
  have HW1 := hid hw1
  have B1 := hid b1
  have P1 := hid p1
  unfold ew at HW1
  obtain ⟨x, hx⟩ : ∃ x, x = c.tv n := ⟨_, rfl⟩
  rw [← hx] at FD ⊢
  obtain ⟨fb, hfb⟩ : ∃ fb, fb = fitP s.ws p := ⟨_, rfl⟩
  rw [← hfb]
  have HFB := hid hfb
  clear hw1 b1 r1 h h1 p1 z1 hE ha A hx hfb
  go_enter Tryz.func162, Tryz.ntmps162
  go_upto_region 1 with fail
  rw [← HW1.out]
  go_wp2_with fail
  refine FD.out.mono ?_
  rintro e w2 ⟨rfl, hb⟩
  have B2 := hid (B1.out.trans (hb.mono B1.out.size))
  have p2 := blk_seen hb (Nat.le_refl _) P1.out
  have y0 := cell_blk p2 (j := 0) rfl
  have y1 := cell_blk p2 (j := 1) rfl
  have y2 := cell_blk p2 (j := 2) rfl
  have y3 := cell_blk p2 (j := 3) rfl
  have y4 := cell_blk p2 (j := 4) rfl
  have y5 := cell_blk p2 (j := 5) rfl
  have CK := hid (check_any Ad (H1.out.later hb) (HE.out.later hb) p)
  rw [← HFB.out] at CK
  clear hb FD p2
  go_wp2_with fail
  refine CK.out.mono ?_
  rintro e w3 ⟨r, rfl, hr, hb⟩
  have B3 := hid (B2.out.trans (hb.mono B2.out.size))
  have HR := hid hr
  cases fb
  · rcases hr with ⟨q, -⟩ | ⟨-, t, q, rfl, d, hd⟩
    · cases q
    clear hb CK y0 y1 y2 y3 y4 y5 hd
    go_wp2_with fail
    exact bodyPost_ret (v := .tuple #[.pointer none, .iface t q]) (by simp [results, Tryz.results162, go_sem]) rfl ⟨_, rfl, HR.out, B3.out⟩
  · obtain rfl := hr.zero
    clear hb CK y0 y1 y2 y3 y4 y5 hr
    go_wp2_with fail
    exact bodyPost_ret (v := .tuple #[.pointer (some ⟨x.tb, 0, none⟩), .nilIface]) (by simp [results, Tryz.results162, go_sem]) rfl ⟨_, rfl, HR.out, B3.out⟩
end
end Go.Proofs.YthadfdbkkmmgoaaGreatDoor.So
namespace Go.Proofs.YthadfdbkkmmgoaaGreatDoor.So
open Go.RowKit Go.Shelf Go.Maps
open Go.Proofs.YthadfdbkkmmgoaaGreatDoor.Co (I64 Pt Col CS I64_mid lies put6_blk put6_st put6)
open Go.Proofs.YthadfdbkkmmgoaaGreatDoor.At (St bAl cell_blk blk_seen blk_free Ints Err at_err err_leaf)
open Go.Proofs.YthadfdbkkmmgoaaGreatDoor.Rs (Prt SD mskP fitP Prts PRow insP insP_rec insr okL pCells pCells_snoc infoPart)
section
variable {Ad : Nat → Addr} {W : World}
set_option maxHeartbeats 1600000 in
set_option maxRecDepth 100000 in
theorem insert_err {rv : Value} {i g : Int} {p : Prt} {k : Nat} (hk : k ≠ 0) (h : ∀ W', Below W.heap.size W W' → Calls Tryz.prog 162 #[rv, .agg #[.int .i64 i, .int .i64 g], .agg #[.int .i64 p.c, .int .i64 p.v0, .int .i64 p.v1, .int .i64 p.v2, .int .i64 p.v3, .int .i64 p.t]] W' fun e W2 => ∃ r, e = .returned (.tuple #[.pointer none, r]) ∧ Er Ad W2 r k 1 ∧ Below W'.heap.size W' W2) :
    Calls Tryz.prog 142 #[rv, .agg #[.int .i64 i, .int .i64 g], .agg #[.int .i64 p.c, .int .i64 p.v0, .int .i64 p.v1, .int .i64 p.v2, .int .i64 p.v3, .int .i64 p.t]] W fun e W' => ∃ r, e = .returned r ∧ Er Ad W' r k ∧ Below W.heap.size W W' := by
  obtain ⟨b1, r1, p1, z1⟩ := ew_facts W i g p
  obtain ⟨w1, hw1⟩ : ∃ w1, w1 = ew W i g p := ⟨_, rfl⟩
  rw [← hw1] at b1 r1 p1 z1
  have d0 := cell_blk r1 (j := 0) rfl
  have d1 := cell_blk r1 (j := 1) rfl
  have y0 := cell_blk p1 (j := 0) rfl
  have y1 := cell_blk p1 (j := 1) rfl
  have y2 := cell_blk p1 (j := 2) rfl
  have y3 := cell_blk p1 (j := 3) rfl
  have y4 := cell_blk p1 (j := 4) rfl
  have y5 := cell_blk p1 (j := 5) rfl
  have FD := hid (h w1 b1)
  have HW1 := hid hw1
  have B1 := hid b1
  unfold ew at HW1
  clear hw1 b1 r1 h p1 z1
  go_enter Tryz.func142, Tryz.ntmps142
  go_upto_region 1 with fail
  rw [← HW1.out]
  go_wp2_with fail
  refine FD.out.mono ?_
  rintro e w2 ⟨r, rfl, hr, hb⟩
  rcases hr with ⟨q, -⟩ | ⟨-, t, q, rfl, d, hd⟩
  · exact absurd q hk
  have AC := hid (fun str => at_err Ad str _ k _ w2 hd)
  have B2 := hid (B1.out.trans (hb.mono B1.out.size))
  clear hb FD hd
  go_wp2_with fail
  refine (AC.out _).mono ?_
  rintro e w3 ⟨t3, q3, rfl, hv, hb⟩
  have HV := hid hv
  have B3 := hid (B2.out.trans (hb.mono B2.out.size))
  clear hv hb AC
  go_wp2_with fail
  go_ret
  exact ⟨_, rfl, Er.of hk HV.out, B3.out⟩
set_option maxHeartbeats 1600000 in
set_option maxRecDepth 100000 in
theorem insert_twice {B : Nat} {sb : Nat} {c : CV} {s : SD} {i g n j m : Nat} {own : List (Nat × Nat)} {y : Nat × Nat} (h : Sto none B W sb c s) (hE : Env8 W Ad) (ha : al s i g) (A : At1 c s i g n j m own y) (p : Prt) (hf : fitP s.ws p = true) {cc : Nat} (hc : p.c = (cc : Int)) (hc16 : cc < 16) (hbit : m.testBit cc = true) :
    Calls Tryz.prog 142 #[.pointer (some ⟨sb, 0, none⟩), .agg #[.int .i64 (i : Int), .int .i64 (g : Int)], .agg #[.int .i64 p.c, .int .i64 p.v0, .int .i64 p.v1, .int .i64 p.v2, .int .i64 p.v3, .int .i64 p.t]] W fun e W' => ∃ r, e = .returned r ∧ Er Ad W' r 9 ∧ Below W.heap.size W W' := by
  obtain ⟨b1, r1, p1, z1⟩ := ew_facts W (i : Int) (g : Int) p
  obtain ⟨w1, hw1⟩ : ∃ w1, w1 = ew W (i : Int) (g : Int) p := ⟨_, rfl⟩
  rw [← hw1] at b1 r1 p1 z1
  have d0 := cell_blk r1 (j := 0) rfl
  have d1 := cell_blk r1 (j := 1) rfl
  have y0 : w1.cell? ⟨W.heap.size + 1, 0, none⟩ = some (.int .i64 (cc : Int)) := by rw [← hc]; exact cell_blk p1 rfl
  have y1 := cell_blk p1 (j := 1) rfl
  have y2 := cell_blk p1 (j := 2) rfl
  have y3 := cell_blk p1 (j := 3) rfl
  have y4 := cell_blk p1 (j := 4) rfl
  have y5 := cell_blk p1 (j := 5) rfl
  have h1 := h.later b1
  have FD := hid (tableFor_some h1 (hE.later b1) ha A p)
  rw [hf] at FD
  have TB := hid (h1.tabOf A)
  have HE := hid (hE.later b1)
  have hm16 := h.m16 A
  have HW1 := hid hw1
  have B1 := hid b1
  have P1 := hid p1
  unfold ew at HW1
  obtain ⟨x, hx⟩ : ∃ x, x = c.tv n := ⟨_, rfl⟩
  rw [← hx] at FD TB
  have SH := hid (fun w => At.sethas_in m cc (by omega) (by omega) w)
  rw [hbit] at SH
  rw [hc] at FD HW1 ⊢
  have HC := hid hc
  change Hid (Calls Tryz.prog 162 #[.pointer (some ⟨sb, 0, none⟩), .agg #[.int .i64 (i : Int), .int .i64 (g : Int)], .agg #[.int .i64 (cc : Int), .int .i64 p.v0, .int .i64 p.v1, .int .i64 p.v2, .int .i64 p.v3, .int .i64 p.t]] w1 fun e W' => ∃ r, e = .returned (.tuple #[.pointer (some ⟨x.tb, 0, none⟩), r]) ∧ Er Ad W' r 0 1 ∧ Below w1.heap.size w1 W') at FD
  clear hw1 b1 r1 h h1 p1 z1 hE ha A hx hbit hc hf
  go_enter Tryz.func142, Tryz.ntmps142
  go_upto_region 1 with fail
  rw [← HW1.out]
  go_wp2_with fail
  refine FD.out.mono ?_
  rintro e w2 ⟨r, rfl, hr, hb⟩
  obtain rfl := hr.zero
  have T2 := hid (TB.out.later hb)
  have P2 := hid (blk_seen hb (Nat.le_refl _) P1.out)
  have E2 := hid (HE.out.later hb)
  have B2 := hid (B1.out.trans (hb.mono B1.out.size))
  have KK : Hid (∀ q, (w2.drewN q).cell? ⟨x.tb, 0, none⟩ = some (.int .u32 (m : Int)) ∧ (w2.drewN q).cell? ⟨W.heap.size + 1, 0, none⟩ = some (.int .i64 (cc : Int))) := fun q => by
    have b := At.drewN_below w2 q
    refine ⟨(T2.out.later b).c0, ?_⟩
    have := cell_blk (blk_seen b (Nat.le_refl _) P2.out) (j := 0) rfl
    rw [← HC.out]; exact this
  clear hb FD hr y0 y1 y2 y3 y4 y5 d0 d1
  go_wp2_with fail
  go_region_held3 (fun W' => W'.cell? ⟨x.tb, 0, none⟩ = some (.int .u32 (m : Int)) ∧ W'.cell? ⟨W.heap.size + 1, 0, none⟩ = some (.int .i64 (cc : Int))) (first | exact KK.out 1 | exact KK.out 0 | exact KK.out 2)
    ((go_at_call 94; refine (SH.out _).mono ?_; rintro e w3 ⟨rfl, hq⟩; obtain rfl := hq.symm))
  have c9 := e9 (E2.out.later (Below.refl _ _).drew)
  have AC := hid (fun str => at_err Ad str _ 9 0 w2.drew (err_leaf Ad _ 9 (by decide)))
  clear KK
  go_wp2_with fail
  refine (AC.out _).mono ?_
  rintro e w4 ⟨t, q, rfl, hv, hb⟩
  have HV := hid hv
  have B4 := hid (B2.out.drew.trans (hb.mono B2.out.size))
  clear hv hb AC
  go_wp2_with fail
  go_ret
  exact ⟨_, rfl, Er.of (by decide) HV.out, B4.out⟩
end
end Go.Proofs.YthadfdbkkmmgoaaGreatDoor.So
namespace Go.Proofs.YthadfdbkkmmgoaaGreatDoor.So
open Go.RowKit Go.Shelf Go.Maps
open Go.Proofs.YthadfdbkkmmgoaaGreatDoor.Co (I64 Pt Col CS I64_mid lies put6_blk put6_st put6)
open Go.Proofs.YthadfdbkkmmgoaaGreatDoor.At (St bAl cell_blk blk_seen blk_free Ints Err at_err err_leaf)
open Go.Proofs.YthadfdbkkmmgoaaGreatDoor.Rs (Prt SD mskP fitP Prts PRow insP insP_rec insr okL pCells pCells_snoc infoPart Six)
/-- append of one part, wherever it lies. -/
theorem step_prt {ops : Array Oper} {o : Oper} {a : Act} {K : Act → World → Prop} {Q : Exit → Act → World → Prop} {E : Prop} (hgd : o.guard = none) (s x : Operand)
    (ho : o.op = .call { callee := .builtin .append, args := #[s, x], argTypes := #[84, 84] }) {B pb : Nat} {wc : World} {v : Value} {l : List Prt} {p : Prt} (hown : Prts B wc v l) (hl : l.length ≤ 1000) (hB : B ≤ wc.heap.size) (hpb : wc.heap[pb]? = some (.cells p.arr 89 (0, 0)))
    (hs : a.eval s = v) (hx : a.eval x = .slice (some ⟨pb, 0, none⟩) 1 1)
    (h : ∀ v' w2, Hid (Prts B w2 v' (l ++ [p])) → Hid (St (fun x => v.ownBlock = some x) wc w2) → Hid (v'.ownBlock = v.ownBlock ∨ ∃ k, v'.ownBlock = some k ∧ wc.heap.size ≤ k) → K (a.put o.dst v') w2) :
    if Region.wanted o (yielded ops a.tmps) = true then Oper.wp Tryz.prog o a wc K Q else E := by
  obtain ⟨i0, hi, hz0, hz1, hz2⟩ := info_parts infoPart
  refine step_append_lies _ hgd s x 84 ho B 89 i0 (.agg #[.int .i64 0, .int .i64 0, .int .i64 0, .int .i64 0, .int .i64 0, .int .i64 0]) 6 48 Tryz.underlying84 hi hz0 hz1 hz2 rfl (by decide) v l.length (pCells l) hs hown ⟨pb, 0, none⟩ 1 1 p.arr.toList hx rfl (fun j u hu => by
    rw [add_at]
    exact cell_blk hpb (by simpa using hu)) (by intro u hu; simp [Prt.arr] at hu; rcases hu with rfl | rfl | rfl | rfl | rfl | rfl <;> rfl) (by decide) (by unfold maxLen; omega) (by omega) hB wc.heap.size rfl ?_
  intro g' cap w2 ow hg hat hlt
  refine h _ w2 ?_ (St.of_grown (S := fun x => v.ownBlock = some x) hg fun k e => e) ?_
  · show World.ownsRow _ _ _ _ _ _ _
    rw [pCells_snoc, List.length_append]
    exact ow
  · rcases hat with h1 | h1
    · exact .inl (by rw [h1]; rfl)
    · exact .inr ⟨g', rfl, by omega⟩
theorem prow_out {S : Nat → Prop} {B : Nat} {W : World} {v : Value} {l : List Prt} (h : Prts B W v l) (hn : ∀ k, v.ownBlock = some k → ¬ S k) : PRowOut S W v l := by
  obtain ⟨a, c, h1, h2⟩ := h.row
  refine ⟨a, c, h1, h2.imp id fun ⟨b, o, q1, q2⟩ => ⟨b, o, q1, hn b (by rw [h1, q1]; rfl), q2⟩⟩
theorem insP_perm (l : List Prt) (p : Prt) : (l ++ [p]).Perm (insP l p) := by
  rw [insP_rec]
  exact (List.perm_append_singleton p l).trans (insr_perm p l).symm
theorem okE_ins {ws : List Nat} {l : List Prt} {p : Prt} (h : okE ws l) (hf : fitP ws p = true) (ht : I64 p.t) (hno : ∀ x ∈ l, x.c ≠ p.c) : okE ws (insP l p) := by
  refine ⟨h.1.ins hf hno, fun x hx => ?_⟩
  rcases List.mem_append.1 ((insP_perm l p).mem_iff.2 hx) with hx | hx
  · exact h.2 x hx
  · simp at hx; subst hx; exact ⟨hf, ht⟩
/-- What leave left. -/
structure Lv (B : Nat) (W : World) (sb : Nat) (c : CV) (s : SD) (i N : Nat) (v : Value) (c3 : CV) (w : World) : Prop where
  sto : Sto (some i) B w sb c3 s
  t : c3.t = c.t
  gw : Gw c c3 W w
  parts : Prts N w v (s.at i)
  out : ∀ k, v.ownBlock = some k → c3.f k = (0, 0, 0)
  low : ∀ k, c3.f k ≠ (0, 0, 0) → k < W.heap.size
theorem Lv.later {B : Nat} {W : World} {sb : Nat} {c : CV} {s : SD} {i N : Nat} {v : Value} {c3 : CV} {w w' : World} (h : Lv B W sb c s i N v c3 w) (hb : Below w.heap.size w w') : Lv B W sb c s i N v c3 w' :=
  ⟨h.sto.later hb, h.t, h.gw.trans (Gw.of_below hb), h.parts.later hb, h.out, h.low⟩
theorem leave_lv {B : Nat} {W W' : World} {sb : Nat} {c : CV} {s : SD} {i g N : Nat} (h : Sto none B W sb c s) (ha : al s i g) (hb : Below W.heap.size W W') (hN : N ≤ W'.heap.size) (hW : W.heap.size ≤ N) :
    Calls Tryz.prog 154 #[.pointer (some ⟨sb, 0, none⟩), .agg #[.int .i64 (i : Int), .int .i64 (g : Int)]] W' fun e W2 => ∃ v c3, e = .returned v ∧ Lv B W sb c s i N v c3 W2 ∧ St (fun k => k < W.heap.size) W' W2 := by
  refine (leave_any (h.later hb) ha).mono ?_
  rintro e W2 ⟨v, rfl, hv, c3, h3, t3, g3, n3⟩
  have hlow : ∀ k, c3.f k ≠ (0, 0, 0) → k < W.heap.size := fun k q => (h.lt k (n3 k q)).2
  refine ⟨v, c3, rfl, ⟨h3, t3, (Gw.of_below hb).trans g3, hv.lower hN, fun k hk => Classical.byContradiction fun q => ?_, hlow⟩, ⟨g3.st.os, g3.st.tape, g3.st.output, g3.st.size, fun k hk hn => g3.st.block k hk fun q => hn (h.lt k q).2⟩⟩
  have e1 := (hv.lt k hk).1
  have e2 := hlow k q
  omega
end Go.Proofs.YthadfdbkkmmgoaaGreatDoor.So
namespace Go.Proofs.YthadfdbkkmmgoaaGreatDoor.So
open Go.RowKit Go.Shelf Go.Maps
open Go.Proofs.YthadfdbkkmmgoaaGreatDoor.Co (I64 Pt Col CS I64_mid lies put6_blk put6_st put6)
open Go.Proofs.YthadfdbkkmmgoaaGreatDoor.At (St bAl cell_blk blk_seen blk_free Ints Err at_err err_leaf)
open Go.Proofs.YthadfdbkkmmgoaaGreatDoor.Rs (Prt SD mskP fitP Prts PRow insP insP_rec insr okL pCells pCells_snoc infoPart Six)
/-- The cells that Insert reads. -/
def Ird (W : World) (i g : Nat) (p : Prt) (W' : World) : Prop := W'.cell? ⟨W.heap.size, 0, none⟩ = some (.int .i64 (i : Int)) ∧ W'.cell? ⟨W.heap.size, 1, none⟩ = some (.int .i64 (g : Int)) ∧ W'.cell? ⟨W.heap.size + 1, 0, none⟩ = some (.int .i64 p.c) ∧ W'.cell? ⟨W.heap.size + 1, 1, none⟩ = some (.int .i64 p.v0) ∧ W'.cell? ⟨W.heap.size + 1, 2, none⟩ = some (.int .i64 p.v1) ∧ W'.cell? ⟨W.heap.size + 1, 3, none⟩ = some (.int .i64 p.v2) ∧ W'.cell? ⟨W.heap.size + 1, 4, none⟩ = some (.int .i64 p.v3) ∧ W'.cell? ⟨W.heap.size + 1, 5, none⟩ = some (.int .i64 p.t)
theorem ird {W W' : World} {i g : Nat} {p : Prt} (h1 : W'.heap[W.heap.size]? = some (.cells #[.int .i64 (i : Int), .int .i64 (g : Int)] 144 (0, 0))) (h2 : W'.heap[W.heap.size + 1]? = some (.cells p.arr 89 (0, 0))) : Ird W i g p W' :=
  ⟨cell_blk h1 rfl, cell_blk h1 rfl, cell_blk h2 rfl, cell_blk h2 rfl, cell_blk h2 rfl, cell_blk h2 rfl, cell_blk h2 rfl, cell_blk h2 rfl⟩
/-- The two blocks that Insert reads. -/
def Ib (W : World) (i g : Nat) (p : Prt) (w : World) : Prop := w.heap[W.heap.size]? = some (.cells #[.int .i64 (i : Int), .int .i64 (g : Int)] 144 (0, 0)) ∧ w.heap[W.heap.size + 1]? = some (.cells p.arr 89 (0, 0))
theorem Ib.read {W w W' : World} {i g : Nat} {p : Prt} (h : Ib W i g p w) (hb : Below w.heap.size w W') : Ird W i g p W' := ird (blk_seen hb (Nat.le_refl _) h.1) (blk_seen hb (Nat.le_refl _) h.2)
theorem Ib.kept {W a b : World} {i g : Nat} {p : Prt} (h : Ib W i g p a) {S : Nat → Prop} (hs : St S a b) (h0 : ¬ S W.heap.size) (h1 : ¬ S (W.heap.size + 1)) : Ib W i g p b := ⟨hs.at h.1 h0, hs.at h.2 h1⟩
/-- What leave leaves to Insert. -/
theorem leave_ird {B : Nat} {W w3 W' : World} {sb : Nat} {c : CV} {s : SD} {i g : Nat} {p : Prt} (h : Sto none B W sb c s) (ha : al s i g) (hb3 : Below W.heap.size W w3) (hz : W.heap.size + 2 ≤ w3.heap.size) (h1 : Ib W i g p w3) (hb : Below w3.heap.size w3 W') :
    Calls Tryz.prog 154 #[.pointer (some ⟨sb, 0, none⟩), .agg #[.int .i64 (i : Int), .int .i64 (g : Int)]] W' fun e W2 => ∃ v c3, e = .returned v ∧ Hid (Lv B W sb c s i (W.heap.size + 2) v c3 W2) ∧ Hid (∀ k q, W.heap.size ≤ k → W'.heap[k]? = some q → W2.heap[k]? = some q) ∧ Hid (Ib W i g p W2) ∧ Hid (∀ W3, Below W2.heap.size W2 W3 → Ird W i g p W3) := by
  refine (leave_lv h ha (hb3.trans (hb.mono hb3.size)) (Nat.le_trans hz hb.size) (by omega)).mono ?_
  rintro e W2 ⟨v, c3, rfl, q1, q2⟩
  have e1 := (h1.kept (S := fun _ => False) (St.of_below hb) id id).kept q2 (by omega) (by omega)
  exact ⟨v, c3, rfl, q1, fun k q hk hq => q2.at hq (by omega), e1, fun W3 hb3 => e1.read hb3⟩
/-- append of the new part to what leave gave. -/
theorem step_ins {ops : Array Oper} {o : Oper} {a : Act} {K : Act → World → Prop} {Q : Exit → Act → World → Prop} {E : Prop} (hgd : o.guard = none) (x y : Operand)
    (ho : o.op = .call { callee := .builtin .append, args := #[x, y], argTypes := #[84, 84] }) {B pb : Nat} {W wc : World} {sb : Nat} {c c3 : CV} {s : SD} {i g : Nat} {v : Value} {p : Prt} (L : Lv B W sb c s i (W.heap.size + 2) v c3 wc) (ib : Ib W i g p wc) (hal : al s i g) (OK : okE s.ws (insP (s.at i) p)) (hl : (s.at i).length ≤ 1000) (hpb : wc.heap[pb]? = some (.cells p.arr 89 (0, 0)))
    (hs : a.eval x = v) (hx : a.eval y = .slice (some ⟨pb, 0, none⟩) 1 1)
    (h : ∀ v' w2, Hid (∀ W', Below w2.heap.size w2 W' → Ird W i g p W') → Hid (∀ W', Below w2.heap.size w2 W' → Calls Tryz.prog 153 #[.pointer (some ⟨sb, 0, none⟩), .agg #[.int .i64 (i : Int), .int .i64 (g : Int)], v'] W' fun e W2 => e = .returned (.tuple #[]) ∧ Hid (∃ c', Sto none B W2 sb c' (entered s i (insP (s.at i) p)) ∧ c'.t = c.t ∧ Gw c c' W W2) ∧ Hid (Ird W i g p W2)) → K (a.put o.dst v') w2) :
    if Region.wanted o (yielded ops a.tmps) = true then Oper.wp Tryz.prog o a wc K Q else E := by
  have hz1 := (Array.getElem?_eq_some_iff.1 ib.2).1
  refine step_prt hgd x y ho L.parts hl (by omega) hpb hs hx fun v' w2 q1 q2 q3 => ?_
  have hvn : ∀ k, v.ownBlock = some k → W.heap.size + 2 ≤ k := fun k hk => (L.parts.lt k hk).1
  have ib2 := ib.kept q2.out (fun q => by have := hvn _ q; omega) (fun q => by have := hvn _ q; omega)
  have st2 := L.sto.keep q2.out fun k hk q => hk (L.out k q)
  have g2 : Gw c c3 W w2 := ⟨L.gw.st.trans q2.out fun k hk q => by have := hvn _ q; omega, L.gw.new⟩
  have o2 : ∀ k, v'.ownBlock = some k → c3.f k = (0, 0, 0) := fun k hk => by
    rcases q3.out with q | ⟨k', q, hk'⟩
    · exact L.out k (q ▸ hk)
    · exact Classical.byContradiction fun hn => by
        have e1 := L.low k hn
        rw [q] at hk
        obtain rfl := Option.some.inj hk
        omega
  refine h v' w2 (fun W' hb => ib2.read hb) fun W' hb => ?_
  refine (enter_any (st2.later hb) hal (prow_out (q1.out.later hb) fun k hk q => q (o2 k hk)) (insP_perm _ _) OK).mono ?_
  rintro e W3 ⟨rfl, c', e1, e2, e3⟩
  have hn0 : ∀ k, W.heap.size ≤ k → ¬ c3.f k ≠ (0, 0, 0) := fun k hk q => by have := L.low k q; omega
  exact ⟨rfl, ⟨c', e1, e2.trans L.t, (g2.trans (Gw.of_below hb)).trans e3⟩, ((ib2.kept (S := fun _ => False) (St.of_below hb) id id).kept e3.st (hn0 _ (Nat.le_refl _)) (hn0 _ (by omega))).read (Below.refl _ _)⟩
set_option maxHeartbeats 3200000 in
set_option maxRecDepth 100000 in
theorem insert_ok (Ad : Nat → Addr) {B : Nat} {W : World} {sb : Nat} {c : CV} {s : SD} {i g n j m : Nat} {own : List (Nat × Nat)} {y : Nat × Nat} (h : Sto none B W sb c s) (hE : Env8 W Ad) (ha : al s i g) (A : At1 c s i g n j m own y) (p : Prt) (hf : fitP s.ws p = true) (ht : I64 p.t) {cc : Nat} (hc : p.c = (cc : Int)) (hc16 : cc < 16) (hbit : m.testBit cc = false) :
    Calls Tryz.prog 142 #[.pointer (some ⟨sb, 0, none⟩), .agg #[.int .i64 (i : Int), .int .i64 (g : Int)], .agg #[.int .i64 p.c, .int .i64 p.v0, .int .i64 p.v1, .int .i64 p.v2, .int .i64 p.v3, .int .i64 p.t]] W fun e W' => e = .returned .nilIface ∧ ∃ c', Sto none B W' sb c' (entered s i (insP (s.at i) p)) ∧ c'.t = c.t ∧ Gw c c' W W' := by
  obtain ⟨b1, r1, p1, z1⟩ := ew_facts W (i : Int) (g : Int) p
  obtain ⟨w1, hw1⟩ : ∃ w1, w1 = ew W (i : Int) (g : Int) p := ⟨_, rfl⟩
  rw [← hw1] at b1 r1 p1 z1
  have d0 := cell_blk r1 (j := 0) rfl
  have d1 := cell_blk r1 (j := 1) rfl
  have y0 : w1.cell? ⟨W.heap.size + 1, 0, none⟩ = some (.int .i64 p.c) := cell_blk p1 rfl
  have y1 : w1.cell? ⟨W.heap.size + 1, 1, none⟩ = some (.int .i64 p.v0) := cell_blk p1 rfl
  have y2 : w1.cell? ⟨W.heap.size + 1, 2, none⟩ = some (.int .i64 p.v1) := cell_blk p1 rfl
  have y3 : w1.cell? ⟨W.heap.size + 1, 3, none⟩ = some (.int .i64 p.v2) := cell_blk p1 rfl
  have y4 : w1.cell? ⟨W.heap.size + 1, 4, none⟩ = some (.int .i64 p.v3) := cell_blk p1 rfl
  have y5 : w1.cell? ⟨W.heap.size + 1, 5, none⟩ = some (.int .i64 p.t) := cell_blk p1 rfl
  have h1 := h.later b1
  have FD := hid (tableFor_some h1 (hE.later b1) ha A p)
  rw [hf] at FD
  have TB := hid (h1.tabOf A)
  have hm16 := h.m16 A
  have HW1 := hid hw1
  have B1 := hid b1
  have P1 := hid p1
  have R1 := hid r1
  unfold ew at HW1
  obtain ⟨x, hx⟩ : ∃ x, x = c.tv n := ⟨_, rfl⟩
  rw [← hx] at FD TB
  have SH : Hid (∀ w, Calls Tryz.prog 94 #[.int .u32 (m : Int), .int .i64 p.c] w fun e w' => e = .returned (.bool false) ∧ w' = w) := fun w => by
    have := At.sethas_in m cc (by omega) (by omega) w
    rw [hbit, ← hc] at this
    exact this
  change Hid (Calls Tryz.prog 162 #[.pointer (some ⟨sb, 0, none⟩), .agg #[.int .i64 (i : Int), .int .i64 (g : Int)], .agg #[.int .i64 p.c, .int .i64 p.v0, .int .i64 p.v1, .int .i64 p.v2, .int .i64 p.v3, .int .i64 p.t]] w1 fun e W' => ∃ r, e = .returned (.tuple #[.pointer (some ⟨x.tb, 0, none⟩), r]) ∧ Er Ad W' r 0 1 ∧ Below w1.heap.size w1 W') at FD
  have hno : ∀ q ∈ s.at i, q.c ≠ p.c := fun q hq e => by
    have := (msk_mem (okL_pos A.ok.1) cc).2 ⟨q, hq, by rw [e, hc]⟩
    rw [← A.msk, hbit] at this
    cases this
  have OK := hid (okE_ins A.ok hf ht hno)
  have hlen : (s.at i).length ≤ 1000 := by have := Rs.okL_few A.ok.1 h.okw.1; omega
  have H := hid h
  have HA := hid ha
  clear hw1 b1 r1 h h1 p1 hE ha A hx hbit hf ht hno hc hc16
  go_enter Tryz.func142, Tryz.ntmps142
  go_upto_region 1 with fail
  rw [← HW1.out]
  go_wp2_with fail
  refine FD.out.mono ?_
  rintro e w2 ⟨r, rfl, hr, hb⟩
  obtain rfl := hr.zero
  have T2 := hid (TB.out.later hb)
  have P2 := hid (blk_seen hb (Nat.le_refl _) P1.out)
  have R2 := hid (blk_seen hb (Nat.le_refl _) R1.out)
  have B2 := hid (B1.out.trans (hb.mono B1.out.size))
  have hz2 : W.heap.size + 2 ≤ w2.heap.size := by have := hb.size; omega
  have K4 : Hid (∀ q, (w2.drewN q).cell? ⟨x.tb, 0, none⟩ = some (.int .u32 (m : Int)) ∧ (w2.drewN q).cell? ⟨W.heap.size + 1, 0, none⟩ = some (.int .i64 p.c)) := fun q => by
    have b := At.drewN_below w2 q
    exact ⟨(T2.out.later b).c0, cell_blk (blk_seen b (Nat.le_refl _) P2.out) rfl⟩
  clear hb FD hr y0 y1 y2 y3 y4 y5 d0 d1
  go_wp2_with fail
  go_region_held3 (fun W' => W'.cell? ⟨x.tb, 0, none⟩ = some (.int .u32 (m : Int)) ∧ W'.cell? ⟨W.heap.size + 1, 0, none⟩ = some (.int .i64 p.c)) (first | exact K4.out 1 | exact K4.out 0 | exact K4.out 2)
    ((go_at_call 94; refine (SH.out _).mono ?_; rintro e w3 ⟨rfl, hq⟩; obtain rfl := hq.symm))
  obtain ⟨w3, hw3⟩ : ∃ w3, w3 = w2.drew := ⟨_, rfl⟩
  have b23 : Below w2.heap.size w2 w3 := by rw [hw3]; exact (Below.refl _ _).drew
  rw [← hw3]
  have B3 := hid (B2.out.trans (b23.mono B2.out.size))
  have P3 := hid (blk_seen b23 (Nat.le_refl _) P2.out)
  have R3 := hid (blk_seen b23 (Nat.le_refl _) R2.out)
  have hz3 : W.heap.size + 2 ≤ w3.heap.size := Nat.le_trans hz2 b23.size
  have KK : Hid (∀ W', Below w3.heap.size w3 W' → Ird W i g p W') := fun W' hb => ird (blk_seen hb (Nat.le_refl _) R3.out) (blk_seen hb (Nat.le_refl _) P3.out)
  have LV := hid fun W' (hb : Below w3.heap.size w3 W') => leave_ird H.out HA.out B3.out hz3 ⟨R3.out, P3.out⟩ hb
  clear hw3 b23 K4 SH P2 R2 T2 TB
  unfold Ird at KK LV
  go_wp2_with fail
  go_region_held3 (fun W' => W'.cell? ⟨W.heap.size, 0, none⟩ = some (.int .i64 (i : Int)) ∧ W'.cell? ⟨W.heap.size, 1, none⟩ = some (.int .i64 (g : Int)) ∧ W'.cell? ⟨W.heap.size + 1, 0, none⟩ = some (.int .i64 p.c) ∧ W'.cell? ⟨W.heap.size + 1, 1, none⟩ = some (.int .i64 p.v0) ∧ W'.cell? ⟨W.heap.size + 1, 2, none⟩ = some (.int .i64 p.v1) ∧ W'.cell? ⟨W.heap.size + 1, 3, none⟩ = some (.int .i64 p.v2) ∧ W'.cell? ⟨W.heap.size + 1, 4, none⟩ = some (.int .i64 p.v3) ∧ W'.cell? ⟨W.heap.size + 1, 5, none⟩ = some (.int .i64 p.t))
    (first | exact KK.out _ (Below.refl _ _).drew | exact K4.out _ (Below.refl _ _) | exact K4.out _ (bAl _ _) | exact KK.out _ ((bAl _ _).drew) | exact KK.out _ ((Below.refl _ _).drew.alloc (by simp) _) | exact K5.out _ (Below.refl _ _) | exact K5.out _ (Below.refl _ _).drew | exact K6.out)
    (first
      | (go_at_call 154; refine (LV.out _ (by first | exact (Below.refl _ _).drew | exact Below.refl _ _ | exact ((Below.refl _ _).drew.alloc (by simp) _))).mono ?_; rintro e w4 ⟨v, c3, rfl, L4, S4, I4, K4⟩)
      | (refine step_ins rfl _ _ rfl (L4.out.later (bAl _ _)) (I4.out.kept (St.of_below (S := fun _ => False) (bAl _ _)) id id) HA.out OK.out hlen (heap_alloc_new _ _) rfl rfl ?_; unfold Ird; intro v5 w5 K5 E5)
      | (refine step_ins rfl _ _ rfl L4.out I4.out HA.out OK.out hlen (S4.out _ _ ?_ (heap_alloc_new _ _)) rfl rfl ?_; (show W.heap.size ≤ w3.heap.size; omega); unfold Ird; intro v5 w5 K5 E5)
      | (go_at_call 153; refine (E5.out _ (by first | exact Below.refl _ _ | exact (Below.refl _ _).drew)).mono ?_; rintro e w6 ⟨rfl, R6, K6⟩)
      | fail)
  all_goals
    go_wp2_with fail
    first
    | (go_ret; exact ⟨rfl, R6.out⟩)
    | exact bodyPost_ret (v := .nilIface) (by simp [results, Tryz.results142, go_sem]) rfl ⟨rfl, R6.out⟩
end Go.Proofs.YthadfdbkkmmgoaaGreatDoor.So
namespace Go.Proofs.YthadfdbkkmmgoaaGreatDoor.So
open Go.RowKit Go.Shelf Go.Maps
open Go.Proofs.YthadfdbkkmmgoaaGreatDoor.Co (I64 Pt Col CS I64_mid lies put6_blk put6_st put6)
open Go.Proofs.YthadfdbkkmmgoaaGreatDoor.At (St bAl cell_blk blk_seen blk_free Ints Err at_err err_leaf)
open Go.Proofs.YthadfdbkkmmgoaaGreatDoor.Rs (Prt SD mskP okL)
theorem enters_get1 : ∀ args w, (callFunc 126 args).run Tryz.prog w = .ok (.enter 126 args) w := enters_of Tryz.func126 (by kernel_rfl) rfl
/-- A part that an entity has stands in its row. -/
theorem row_here {s : SD} {own : List (Nat × Nat)} {i g j : Nat} (hj : own[j]? = some (i, g)) (hok : okL s.ws (s.at i)) {p : Prt} (hp : p ∈ s.at i) {cc : Nat} (hc : p.c = (cc : Int)) : (rowsOf s own cc)[j]? = some (pt p) := by
  unfold rowsOf
  rw [List.getElem?_map, hj, Option.map_some, ptAt_mem (okL_apart hok) hp hc]
theorem has_bit {s : SD} {i m : Nat} (hm : m = mskP (s.at i)) (hok : okL s.ws (s.at i)) {p : Prt} (hp : p ∈ s.at i) {cc : Nat} (hc : p.c = (cc : Int)) : m.testBit cc = true := by
  rw [hm]; exact (msk_mem (okL_pos hok) cc).2 ⟨p, hp, hc⟩
theorem no_bit {s : SD} {i m : Nat} (hm : m = mskP (s.at i)) (hok : okL s.ws (s.at i)) {comp : Int} (hno : ∀ p ∈ s.at i, p.c ≠ comp) (cb : Nat → Nat) : lk (colMap m cb) comp = none := by
  unfold lk
  split
  · rename_i h0
    unfold colMap
    refine if_neg fun q => ?_
    rw [hm] at q
    obtain ⟨p, hp, e⟩ := (msk_mem (okL_pos hok) comp.toNat).1 q
    exact hno p hp (by omega)
  · rfl
theorem kept_below (W : World) (RB : Nat) (hR : W.heap.size ≤ RB) : Kept RB (fun w => Below W.heap.size W w) :=
  ⟨fun w w' h hb => h.trans (hb.mono h.size), fun w w' h hs => h.trans (hs.below (B := W.heap.size) (fun k hk => by omega) h.size)⟩
section
variable {Ad : Nat → Addr} {W : World}
theorem get_err {rv : Value} {i g : Int} {k : Nat} (h : NoFind Ad W rv i g k) (hk : 1 ≤ k ∧ k ≤ 18) (comp : Int) :
    Calls Tryz.prog 79 #[rv, .agg #[.int .i64 i, .int .i64 g], .int .i64 comp] W fun e W' => ∃ r, e = .returned (.tuple #[Pt.zero.val 0, r]) ∧ Er Ad W' r k ∧ Below W.heap.size W W' := by
  obtain ⟨b1, r1, p1, z1⟩ := pw_facts W i g
  refine get_tail (kept_below W _ (by omega)) (.inr ⟨rfl, rfl⟩) ?_
  refine (part_err (fun w hb => h w (b1.trans (hb.mono b1.size))) comp _).mono ?_
  rintro e w ⟨rfl, hb⟩
  exact ⟨_, rfl, Er.leaf Ad w k hk, b1.trans (hb.mono b1.size), blk_seen hb (Nat.le_refl _) p1⟩
theorem get_none {B : Nat} {sb : Nat} {c : CV} {s : SD} {i g : Nat} (h : Sto none B W sb c s) (hE : Env8 W Ad) (ha : al s i g) (comp : Int) (hc : I64 comp) (hno : ∀ p ∈ s.at i, p.c ≠ comp) :
    Calls Tryz.prog 79 #[.pointer (some ⟨sb, 0, none⟩), .agg #[.int .i64 (i : Int), .int .i64 (g : Int)], .int .i64 comp] W fun e W' => ∃ r, e = .returned (.tuple #[Pt.zero.val 0, r]) ∧ Er Ad W' r 7 ∧ Below W.heap.size W W' := by
  obtain ⟨b1, r1, p1, z1⟩ := pw_facts W (i : Int) (g : Int)
  obtain ⟨n, j, m, own, y, A⟩ := h.stands ha (by simp)
  refine get_tail (kept_below W _ (by omega)) (.inr ⟨rfl, rfl⟩) ?_
  refine (part_none (h.later b1) (hE.later b1) ha A comp hc (no_bit A.msk A.ok.1 hno _) _).mono ?_
  rintro e w ⟨rfl, hb⟩
  exact ⟨_, rfl, Er.leaf Ad w 7 (by omega), b1.trans (hb.mono b1.size), blk_seen hb (Nat.le_refl _) p1⟩
theorem get_ok {B : Nat} {sb : Nat} {c : CV} {s : SD} {i g : Nat} (h : Sto none B W sb c s) (ha : al s i g) (p : Prt) (hp : p ∈ s.at i) :
    Calls Tryz.prog 79 #[.pointer (some ⟨sb, 0, none⟩), .agg #[.int .i64 (i : Int), .int .i64 (g : Int)], .int .i64 p.c] W fun e W' => e = .returned (.tuple #[p.val, .nilIface]) ∧ Below W.heap.size W W' := by
  obtain ⟨b1, r1, p1, z1⟩ := pw_facts W (i : Int) (g : Int)
  obtain ⟨n, j, m, own, y, A⟩ := h.stands ha (by simp)
  obtain ⟨cc, hcc⟩ : ∃ cc : Nat, p.c = (cc : Int) := ⟨p.c.toNat, by have := okL_pos A.ok.1 p hp; omega⟩
  have hc16 : cc < 16 := by have := (A.ok.1.2 p hp).2; have := h.okw.1; omega
  have hbit := has_bit A.msk A.ok.1 hp hcc
  have G := get_tail (Ad := fun _ => ⟨0, 0, none⟩) (W := W) (rv := .pointer (some ⟨sb, 0, none⟩)) (i := (i : Int)) (g := (g : Int)) (comp := p.c) (cm := p.c) (u := pt p) (k := 0) (kept_below W _ (by omega)) (.inl rfl) (by
    rw [hcc]
    refine (part_ok (h.later b1) ha A cc hc16 hbit 126 #[] enters_get1 (pt p) (fun w => Below (pw W (i : Int) (g : Int)).heap.size (pw W (i : Int) (g : Int)) w) (fun w w' q hs => q.trans (hs.below (B := (pw W (i : Int) (g : Int)).heap.size) (fun k hk => by omega) q.size)) fun W' hb _ => ?_).mono ?_
    · obtain ⟨w, hw, hcol⟩ := (((h.later b1).later hb).tabOf A).col cc hbit
      refine (get1_any hcol j (pt p) (row_here A.here A.ok.1 hp hcc)).mono ?_
      rintro e W2 ⟨rfl, q⟩
      exact ⟨rfl, hb.trans (q.mono hb.size), St.of_below q⟩
    · rintro e w ⟨rfl, q⟩
      exact ⟨_, rfl, Er.none _ w, b1.trans (q.mono b1.size), blk_seen q (Nat.le_refl _) p1⟩)
  refine G.mono ?_
  rintro e w ⟨r, rfl, q1, q2⟩
  obtain rfl := q1.zero
  exact ⟨rfl, q2⟩
end
end Go.Proofs.YthadfdbkkmmgoaaGreatDoor.So
namespace Go.Proofs.YthadfdbkkmmgoaaGreatDoor.So
open Go.RowKit Go.Shelf Go.Maps
open Go.Proofs.YthadfdbkkmmgoaaGreatDoor.Co (I64 Pt Col CS I64_mid lies put6_blk put6_st put6)
open Go.Proofs.YthadfdbkkmmgoaaGreatDoor.At (St bAl cell_blk blk_seen blk_free Ints Err at_err err_leaf)
open Go.Proofs.YthadfdbkkmmgoaaGreatDoor.Rs (Prt SD mskP okL)
theorem al_step {W w : World} {n : Nat} (hb : Below W.heap.size W w) (hn : w.heap.size = W.heap.size + n) (cs : Array Value) (t : TypeId) : Below W.heap.size W (w.alloc (.cells cs t)) ∧ (w.alloc (.cells cs t)).heap.size = W.heap.size + (n + 1) ∧ (w.alloc (.cells cs t)).heap[W.heap.size + n]? = some (.cells cs t (0, 0)) := by
  refine ⟨hb.trans ((bAl _ _).mono hb.size), by simp [hn]; omega, ?_⟩
  rw [← hn]; exact heap_alloc_new w _
/-- The world in which Put begins. -/
def xw (W : World) (i g : Int) (p : Prt) : World := (ew W i g p).alloc (.cells #[.int .i64 0, .int .i64 0, .int .i64 0, .int .i64 0, .int .i64 0, .int .i64 0] 89)
theorem xw_facts (W : World) (i g : Int) (p : Prt) : Below W.heap.size W (xw W i g p) ∧ (xw W i g p).heap[W.heap.size]? = some (.cells #[.int .i64 i, .int .i64 g] 144 (0, 0)) ∧ (xw W i g p).heap[W.heap.size + 1]? = some (.cells p.arr 89 (0, 0)) ∧ (xw W i g p).heap[W.heap.size + 2]? = some (.cells (Pt.zero.arr 0) 89 (0, 0)) ∧ (xw W i g p).heap.size = W.heap.size + 3 := by
  obtain ⟨b1, r1, p1, z1⟩ := ew_facts W i g p
  obtain ⟨a1, a2, a3⟩ := al_step b1 z1 #[.int .i64 0, .int .i64 0, .int .i64 0, .int .i64 0, .int .i64 0, .int .i64 0] 89
  exact ⟨a1, blk_seen (bAl _ _) (Nat.le_refl _) r1, blk_seen (bAl _ _) (Nat.le_refl _) p1, a3, a2⟩
/-- The world in which Set begins. -/
def sw (W : World) (i g cell value frame : Int) : World := ((((W.alloc (.cells #[.int .i64 i, .int .i64 g] 144)).alloc (.cells #[.int .i64 cell] 3)).alloc (.cells #[.int .i64 value] 3)).alloc (.cells #[.int .i64 frame] 3)).alloc (.cells #[.int .i64 0, .int .i64 0, .int .i64 0, .int .i64 0, .int .i64 0, .int .i64 0] 89)
theorem sw_facts (W : World) (i g cell value frame : Int) : Below W.heap.size W (sw W i g cell value frame) ∧ (sw W i g cell value frame).heap[W.heap.size]? = some (.cells #[.int .i64 i, .int .i64 g] 144 (0, 0)) ∧ (sw W i g cell value frame).heap[W.heap.size + 1]? = some (.cells #[.int .i64 cell] 3 (0, 0)) ∧ (sw W i g cell value frame).heap[W.heap.size + 2]? = some (.cells #[.int .i64 value] 3 (0, 0)) ∧ (sw W i g cell value frame).heap[W.heap.size + 3]? = some (.cells #[.int .i64 frame] 3 (0, 0)) ∧ (sw W i g cell value frame).heap[W.heap.size + 4]? = some (.cells (Pt.zero.arr 0) 89 (0, 0)) ∧ (sw W i g cell value frame).heap.size = W.heap.size + 5 := by
  obtain ⟨a1, a2, a3⟩ := al_step (n := 0) (Below.refl W.heap.size W) rfl #[.int .i64 i, .int .i64 g] 144
  obtain ⟨b1, b2, b3⟩ := al_step a1 a2 #[.int .i64 cell] 3
  obtain ⟨c1, c2, c3⟩ := al_step b1 b2 #[.int .i64 value] 3
  obtain ⟨d1, d2, d3⟩ := al_step c1 c2 #[.int .i64 frame] 3
  obtain ⟨e1, e2, e3⟩ := al_step d1 d2 #[.int .i64 0, .int .i64 0, .int .i64 0, .int .i64 0, .int .i64 0, .int .i64 0] 89
  have K : ∀ {w : World} {k : Nat} {o : Obj} (q : Obj), w.heap[k]? = some o → (w.alloc q).heap[k]? = some o := fun q h => blk_seen (bAl _ _) (Nat.le_refl _) h
  exact ⟨e1, K _ (K _ (K _ (K _ a3))), K _ (K _ (K _ b3)), K _ (K _ c3), K _ d3, e3, e2⟩
section
variable {Ad : Nat → Addr} {W : World} {Q : World → Prop}
end
end Go.Proofs.YthadfdbkkmmgoaaGreatDoor.So
namespace Go.Proofs.YthadfdbkkmmgoaaGreatDoor.So
open Go.RowKit Go.Shelf Go.Maps
open Go.Proofs.YthadfdbkkmmgoaaGreatDoor.Co (I64 Pt Col CS I64_mid lies put6_blk put6_st put6)
open Go.Proofs.YthadfdbkkmmgoaaGreatDoor.At (St bAl cell_blk blk_seen blk_free Ints Err at_err err_leaf)
open Go.Proofs.YthadfdbkkmmgoaaGreatDoor.Rs (Prt SD mskP okL)
section
variable {Ad : Nat → Addr} {W : World} {Q : World → Prop}
end
end Go.Proofs.YthadfdbkkmmgoaaGreatDoor.So
namespace Go.Proofs.YthadfdbkkmmgoaaGreatDoor.So
open Go.RowKit Go.Shelf Go.Maps
open Go.Proofs.YthadfdbkkmmgoaaGreatDoor.Co (I64 Pt Col CS I64_mid lies put6_blk put6_st put6)
open Go.Proofs.YthadfdbkkmmgoaaGreatDoor.At (St bAl cell_blk blk_seen blk_free Ints Err at_err err_leaf)
open Go.Proofs.YthadfdbkkmmgoaaGreatDoor.Rs (Prt SD mskP okL fitP insP insP_rec mem_insr remP remP_no)
/-- A row with another part in the place of one. -/
def putP (l : List Prt) (p : Prt) : List Prt := insP (remP l p.c) p
theorem mem_putP {l : List Prt} {p x : Prt} : x ∈ putP l p ↔ x = p ∨ (x ∈ l ∧ x.c ≠ p.c) := by
  unfold putP
  rw [insP_rec, mem_insr, remP, List.mem_filter]
  simp
theorem okE_rem {ws : List Nat} {l : List Prt} (h : okE ws l) (comp : Int) : okE ws (remP l comp) := ⟨h.1.rem comp, fun x hx => h.2 x (List.mem_filter.1 hx).1⟩
theorem okE_put {ws : List Nat} {l : List Prt} {p : Prt} (h : okE ws l) (hf : fitP ws p = true) (ht : I64 p.t) : okE ws (putP l p) := okE_ins (okE_rem h p.c) hf ht (remP_no l p.c)
theorem msk_putP {ws : List Nat} {l : List Prt} {p q : Prt} (h : okE ws l) (hf : fitP ws p = true) (ht : I64 p.t) (hq : q ∈ l) (hc : q.c = p.c) : mskP (putP l p) = mskP l := by
  refine eq_bits fun i => Bool.eq_iff_iff.2 ?_
  rw [msk_mem (okL_pos (okE_put h hf ht).1), msk_mem (okL_pos h.1)]
  constructor
  · rintro ⟨x, hx, e⟩
    rcases mem_putP.1 hx with rfl | ⟨hx, -⟩
    · exact ⟨q, hq, hc.trans e⟩
    · exact ⟨x, hx, e⟩
  · rintro ⟨x, hx, e⟩
    by_cases k : x.c = p.c
    · exact ⟨p, mem_putP.2 (.inl rfl), k ▸ e⟩
    · exact ⟨x, mem_putP.2 (.inr ⟨hx, k⟩), e⟩
theorem ptAt_put {ws : List Nat} {l : List Prt} {p : Prt} (h : okE ws l) (hf : fitP ws p = true) (ht : I64 p.t) {cc : Nat} (hc : p.c = (cc : Int)) (q : Nat) : ptAt (putP l p) q = if q = cc then pt p else ptAt l q := by
  have ho := okE_put h hf ht
  by_cases e : q = cc
  · rw [if_pos e, ptAt_mem (okL_apart ho.1) (mem_putP.2 (.inl rfl)) (by rw [hc, e])]
  · rw [if_neg e]
    by_cases k : ∃ x ∈ l, x.c = (q : Int)
    · obtain ⟨x, hx, ex⟩ := k
      rw [ptAt_mem (okL_apart ho.1) (mem_putP.2 (.inr ⟨hx, by omega⟩)) ex, ptAt_mem (okL_apart h.1) hx ex]
    · unfold ptAt
      rw [find_none (l := l) fun x hx ex => k ⟨x, hx, ex⟩, find_none fun x hx ex => ?_]
      rcases mem_putP.1 hx with rfl | ⟨hx, -⟩
      · omega
      · exact k ⟨x, hx, ex⟩
section
variable {B : Nat} {W W' : World} {sb : Nat} {c : CV} {s : SD} {i g n j m : Nat} {own : List (Nat × Nat)} {y : Nat × Nat}
theorem Sto.turn (h : Sto none B W sb c s) (A : At1 c s i g n j m own y) (hi : i < s.p.length) {p : Prt} (hf : fitP s.ws p = true) (ht : I64 p.t) {q : Prt} (hq : q ∈ s.at i) (hqc : q.c = p.c) {cc w : Nat} (hc : p.c = (cc : Int)) (hw : s.ws[cc]? = some w)
    (hcol : Col B W' ((c.tv n).cb cc) ⟨(cc : Int), w, (rowsOf s own cc).set j (pt p)⟩ (fun k => c.f k = (5, n, cc))) (hs : St (fun k => c.f k = (5, n, cc)) W W') :
    ∃ c', Sto none B W' sb c' (rowed s i (putP (s.at i) p)) ∧ c'.t = c.t ∧ c'.f = c.f ∧ Gw c c' W W' := by
  have X := h.out A.tab A.set
  have T := X.tb.colsame hw hcol hs
  obtain ⟨X1, G1⟩ := X.retab (f' := c.f) (ov' := (c.tv n).ov) T (Rec.refl _ _ (fun k hk => (h.lt k hk).2) hs.size) ⟨hs.os, hs.tape, hs.output, hs.size, fun k hk hn => hs.block k hk fun q => hn (.inr ⟨cc, q⟩)⟩
  have hme : ∀ e : Nat × Nat, e ∈ own → ∀ k, own[k]? = some e → e.1 = i → k = j := fun e _ k hk ei => by
    obtain ⟨a, b⟩ := e
    change a = i at ei
    subst ei
    exact (h.lk.one A.tab A.tab hk A.here).2
  have hat : ∀ (k q : Nat), q ≠ cc → ptAt ((rowed s i (putP (s.at i) p)).at k) q = ptAt (s.at k) q := fun k q hne => by
    by_cases e : k = i
    · rw [e, at_rowed _ hi, ptAt_put A.ok hf ht hc, if_neg hne]
    · rw [at_rowed_other _ e]
  have hlk : Lk none (tput c.tab n (some own)) c.seat (rowed s i (putP (s.at i) p)) := by
    have e : tput c.tab n (some own) = c.tab := by
      funext k
      unfold tput
      by_cases e : k = n
      · rw [if_pos e, e, A.tab]
      · rw [if_neg e]
    rw [e]
    exact h.lk.put hi (msk_putP A.ok hf ht hq hqc) (okE_put A.ok hf ht)
  refine ⟨_, X1.back (W' := W') (s' := rowed s i (putP (s.at i) p)) (seat' := c.seat) X1.seats (St.of_below (Below.refl _ _)) rfl rfl rfl rfl (by show (s.p.set i _).length = 64; rw [List.length_set]; exact h.n2) hlk (fun q hq => ?_) (fun n' own' hne hn' q => ?_), rfl, rfl, ⟨G1.st, G1.new⟩⟩
  · by_cases e : q = cc
    · rw [if_pos e, e]
      unfold rowsOf
      refine List.ext_getElem? fun k => ?_
      rw [List.getElem?_map, List.getElem?_set, List.length_map, List.getElem?_map]
      by_cases ek : j = k
      · subst ek
        have hj := (List.getElem?_eq_some_iff.1 A.here).1
        rw [if_pos rfl, if_pos hj, A.here, Option.map_some, at_rowed _ hi, ptAt_put A.ok hf ht hc, if_pos rfl]
      · rw [if_neg ek]
        cases ho : own[k]? with
        | none => rfl
        | some e =>
          rw [Option.map_some, Option.map_some, at_rowed_other _ fun q => ek (hme e (List.mem_of_getElem? ho) k ho q).symm]
    · rw [if_neg e]
      exact List.map_congr_left fun a _ => hat _ _ e
  · refine List.map_congr_left fun a ha => ?_
    obtain ⟨k, hk⟩ := List.getElem?_of_mem ha
    rw [at_rowed_other _ fun e => hne ?_]
    obtain ⟨a1, a2⟩ := a
    change a1 = i at e
    subst e
    exact (h.lk.one hn' A.tab hk A.here).1
end
end Go.Proofs.YthadfdbkkmmgoaaGreatDoor.So
namespace Go.Proofs.YthadfdbkkmmgoaaGreatDoor.So
open Go.RowKit Go.Shelf Go.Maps
open Go.Proofs.YthadfdbkkmmgoaaGreatDoor.Co (I64 Pt Col CS I64_mid lies put6_blk put6_st put6)
open Go.Proofs.YthadfdbkkmmgoaaGreatDoor.At (St bAl cell_blk blk_seen blk_free Ints Err at_err err_leaf)
open Go.Proofs.YthadfdbkkmmgoaaGreatDoor.Rs (Prt SD mskP okL fitP insP remP)
/-- The store behind a change of one part. -/
def Tn (B : Nat) (W : World) (sb : Nat) (c : CV) (s' : SD) (w : World) : Prop := ∃ c', Sto none B w sb c' s' ∧ c'.t = c.t ∧ c'.f = c.f ∧ Gw c c' W w
theorem Tn.later {B : Nat} {W w w' : World} {sb : Nat} {c : CV} {s' : SD} (h : Tn B W sb c s' w) (hb : Below w.heap.size w w') : Tn B W sb c s' w' := by
  obtain ⟨c', e1, e2, e3, e4⟩ := h
  exact ⟨c', e1.later hb, e2, e3, e4.trans (Gw.of_below hb)⟩
theorem Tn.st {B : Nat} {W w w' : World} {sb : Nat} {c : CV} {s' : SD} (h : Tn B W sb c s' w) (hlt : ∀ k, c.f k ≠ (0, 0, 0) → k < W.heap.size) {RB : Nat} (hR : W.heap.size ≤ RB) (hs : St (fun k => k = RB) w w') : Tn B W sb c s' w' := by
  obtain ⟨c', e1, e2, e3, e4⟩ := h
  refine ⟨c', e1.keep hs fun k hk e => ?_, e2, e3, ⟨e4.st.trans hs fun k hk e => ?_, e4.new⟩⟩
  · rw [e3] at hk; have := hlt k hk; omega
  · omega
theorem Tn.kept {B : Nat} {W : World} {sb : Nat} {c : CV} {s' : SD} (hlt : ∀ k, c.f k ≠ (0, 0, 0) → k < W.heap.size) {RB : Nat} (hR : W.heap.size ≤ RB) : Kept RB (Tn B W sb c s') := ⟨fun _ _ h hb => h.later hb, fun _ _ h hs => h.st hlt hR hs⟩
theorem Sto.room {ex : Option Nat} {B : Nat} {W : World} {sb : Nat} {c : CV} {s : SD} (h : Sto ex B W sb c s) {i g : Nat} (ha : al s i g) : i < s.p.length := by
  have := al_lt ha
  have := h.rol.small
  rw [h.n2]; omega
section
variable {Ad : Nat → Addr} {B : Nat} {W : World} {sb : Nat} {c : CV} {s : SD} {i g : Nat}
/-- The change of one part, in the column. -/
theorem Sto.turned (h : Sto none B W sb c s) {n j m : Nat} {own : List (Nat × Nat)} {y : Nat × Nat} (A : At1 c s i g n j m own y) (ha : al s i g) {p q : Prt} (hf : fitP s.ws p = true) (ht : I64 p.t) (hq : q ∈ s.at i) (hqc : q.c = p.c) {cc w : Nat} (hc : p.c = (cc : Int)) (hw : s.ws[cc]? = some w) {W0 W2 W3 : World} (hb : Below W.heap.size W W2)
    (hcol : Col B W3 ((c.tv n).cb cc) ⟨(cc : Int), w, (rowsOf s own cc).set j (pt p)⟩ (fun k => c.f k = (5, n, cc))) (hs : Co.St (fun k => c.f k = (5, n, cc)) W2 W3) (h0 : W.heap.size ≤ W0.heap.size) {zb : Nat} (hz : W.heap.size ≤ zb) {o : Obj} (hzo : W2.heap[zb]? = some o) :
    (Tn B W sb c (rowed s i (putP (s.at i) p)) W3 ∧ W3.heap[zb]? = some o) ∧ St (fun k => k < W0.heap.size) W2 W3 := by
  have hs' := st_co hs
  have hlt : ∀ k, c.f k = (5, n, cc) → k < W.heap.size := fun k hk => (h.lt k (by rw [hk]; simp)).2
  obtain ⟨c', e1, e2, e3, e4⟩ := (h.later hb).turn A (h.room ha) hf ht hq hqc hc hw hcol hs'
  refine ⟨⟨⟨c', e1, e2, e3, (Gw.of_below hb).trans e4⟩, hs'.at hzo fun k => ?_⟩, ⟨hs'.os, hs'.tape, hs'.output, hs'.size, fun k hk hn => hs'.block k hk fun q => hn ?_⟩⟩
  · have := hlt _ k; omega
  · have := hlt _ q; omega
end
end Go.Proofs.YthadfdbkkmmgoaaGreatDoor.So
namespace Go.Proofs.YthadfdbkkmmgoaaGreatDoor.So
open Go.RowKit Go.Shelf Go.Maps
open Go.Proofs.YthadfdbkkmmgoaaGreatDoor.Co (I64 Pt Col CS I64_mid lies put6_blk put6_st put6)
open Go.Proofs.YthadfdbkkmmgoaaGreatDoor.At (St bAl cell_blk blk_seen blk_free Ints Err at_err err_leaf)
open Go.Proofs.YthadfdbkkmmgoaaGreatDoor.Rs (Prt SD mskP okL fitP insP remP)
/-- A part with one cell another one. -/
def setQ (q : Prt) (j : Nat) (x f : Int) : Prt := ⟨q.c, ((pt q).put j x f).a, ((pt q).put j x f).b, ((pt q).put j x f).c, ((pt q).put j x f).d, ((pt q).put j x f).t⟩
theorem pt_setQ (q : Prt) (j : Nat) (x f : Int) : pt (setQ q j x f) = (pt q).put j x f := rfl
theorem put_t (p : Pt) (j : Nat) (x f : Int) : (p.put j x f).t = f := by
  unfold Pt.put
  split <;> rfl
section
variable {Ad : Nat → Addr} {B : Nat} {W : World} {sb : Nat} {c : CV} {s : SD} {i g : Nat}
end
end Go.Proofs.YthadfdbkkmmgoaaGreatDoor.So
namespace Go.Proofs.YthadfdbkkmmgoaaGreatDoor.So
open Go.RowKit Go.Shelf Go.Maps
open Go.Proofs.YthadfdbkkmmgoaaGreatDoor.Co (I64 Pt Col CS I64_mid lies)
open Go.Proofs.YthadfdbkkmmgoaaGreatDoor.At (St bAl cell_blk blk_seen blk_free)
open Go.Proofs.YthadfdbkkmmgoaaGreatDoor.Rs (Prt SD Prts PRow pCells pCells_snoc pCells_at Six)
set_option maxHeartbeats 800000 in
theorem rem1_any (W : World) (p : Prt) (xb : Nat) (comp : Int) (hx : W.cell? ⟨xb, 0, none⟩ = some (.int .i64 comp)) (bb : Bool) (hb : (p.c == comp) = bb) :
    Calls Tryz.prog 163 #[.agg #[.int .i64 p.c, .int .i64 p.v0, .int .i64 p.v1, .int .i64 p.v2, .int .i64 p.v3, .int .i64 p.t], .pointer (some ⟨xb, 0, none⟩)] W fun e W' => e = .returned (.bool bb) ∧ Below W.heap.size W W' := by
  obtain ⟨w1, hw1⟩ : ∃ w1, w1 = W.alloc (.cells #[.int .i64 p.c, .int .i64 p.v0, .int .i64 p.v1, .int .i64 p.v2, .int .i64 p.v3, .int .i64 p.t] 89) := ⟨_, rfl⟩
  have b1 : Below W.heap.size W w1 := by rw [hw1]; exact bAl _ _
  have r1 : w1.heap[W.heap.size]? = some (.cells p.arr 89 (0, 0)) := by rw [hw1]; exact heap_alloc_new W _
  have y0 : w1.cell? ⟨W.heap.size, 0, none⟩ = some (.int .i64 p.c) := cell_blk r1 rfl
  have x0 := At.seen b1 (Nat.le_refl _) hx
  have HW1 := hid hw1
  have B1 := hid b1
  clear hw1 b1 r1 hx
  go_enter Tryz.func163, Tryz.ntmps163
  go_upto_region 1 with fail
  rw [← HW1.out]
  go_wp2_with fail
  go_ret
  exact ⟨rfl, B1.out⟩
theorem prow_six {N : Nat} {W : World} {g n cap : Nat} {l : List Prt} (h : Prts N W (.slice (some ⟨g, 0, none⟩) n cap) l) {j : Nat} {p : Prt} (hj : l[j]? = some p) : Six W g (j * 6) p := by
  obtain ⟨a, c, e, hr⟩ := h.row
  obtain ⟨b, o, e1, e2⟩ := (e ▸ h.row : PRow W (.slice a l.length c) l).at hj
  have e3 : (some ⟨g, 0, none⟩ : Option Addr) = a := by simpa using congrArg (fun v => match v with | .slice x _ _ => x | _ => none) e
  rw [e1] at e3
  obtain ⟨rfl, rfl⟩ : g = b ∧ 0 = o := by simpa using e3
  rw [Nat.zero_add] at e2
  exact e2
set_option maxHeartbeats 1600000 in
set_option maxRecDepth 100000 in
theorem index_part {N : Nat} {W : World} {g n cap : Nat} {a b : List Prt} {q : Prt} (h : Prts N W (.slice (some ⟨g, 0, none⟩) n cap) (a ++ q :: b)) (hn : n = a.length + 1 + b.length) (hn9 : n ≤ 1000) (xb : Nat) (comp : Int) (hx : W.cell? ⟨xb, 0, none⟩ = some (.int .i64 comp)) (ha : ∀ x ∈ a, x.c ≠ comp) (hq : q.c = comp) :
    Calls Tryz.prog 113 #[.slice (some ⟨g, 0, none⟩) n cap, .func (.func 163) #[] #[.pointer (some ⟨xb, 0, none⟩)]] W fun e W' => e = .returned (.int .i64 (a.length : Int)) ∧ Below W.heap.size W W' := by
  have RD : Hid (∀ W', Below W.heap.size W W' → ∀ j p, (a ++ q :: b)[j]? = some p → Six W' g (j * 6) p) := fun W' hb j p hj => prow_six (h.later hb) hj
  have CL : Hid (∀ W', Below W.heap.size W W' → ∀ (p : Prt) bb, (p.c == comp) = bb → Calls Tryz.prog 163 #[.agg #[.int .i64 p.c, .int .i64 p.v0, .int .i64 p.v1, .int .i64 p.v2, .int .i64 p.v3, .int .i64 p.t], .pointer (some ⟨xb, 0, none⟩)] W' fun e W2 => e = .returned (.bool bb) ∧ Below W.heap.size W W2) := fun W' hb p bb hp =>
    (rem1_any W' p xb comp (At.seen hb (Nat.le_refl _) hx) bb hp).mono fun e W2 ⟨q1, q2⟩ => ⟨q1, hb.trans (q2.mono hb.size)⟩
  have HA := hid ha
  have hq' : (q.c == comp) = true := by simp [hq]
  have HQ := hid hq'
  have A0 : Hid (∀ k, k < a.length → ∃ p, a[k]? = some p ∧ (a ++ q :: b)[k]? = some p) := fun k hk => by
    obtain ⟨p, hp⟩ := at_lt a k hk
    exact ⟨p, hp, by rw [List.getElem?_append_left hk]; exact hp⟩
  have A1 : Hid ((a ++ q :: b)[a.length]? = some q) := by show _ = _; simp
  generalize a.length = A at *
  generalize b.length = Bn at *
  have hnI : (n : Int) ≤ 1000 := by omega
  have hAn : (A : Int) < (n : Int) := by omega
  clear h hx ha hq hq' hn hn9
  go_enter Tryz.func113, Tryz.ntmps113
  go_wp2_with fail
  go_loopg [5, 8] (A + 1) (fun gh _ i wr => ∃ k : Nat, k ≤ A ∧ gh = A + 1 - k ∧ i = .int .i64 (k : Int) ∧ Hid (Below W.heap.size W wr))
  case atStart => exact ⟨0, Nat.zero_le _, rfl, rfl, Below.refl _ _⟩
  case round =>
    obtain ⟨k, hk, rfl, rfl, HB⟩ := hrel
    have hki : (k : Int) < (n : Int) := by omega
    by_cases hlt : k < A
    · obtain ⟨p, hp, hp2⟩ := A0.out k hlt
      obtain ⟨c0, c1, c2, c3, c4, c5⟩ := RD.out _ HB.out k p hp2
      have hne : (p.c == comp) = false := by simp [HA.out p (List.mem_of_getElem? hp)]
      have CC := hid (CL.out _ HB.out p _ hne)
      clear hp hp2 hne
      go_wp2_with fail
      refine CC.out.mono ?_
      rintro e w2 ⟨rfl, hb⟩
      have HB2 := hid hb
      clear hb CC c0 c1 c2 c3 c4 c5
      go_wp2_with fail
      go_roundg (A + 1 - (k + 1))
      case measure => omega
      case rel => exact ⟨k + 1, by omega, rfl, by go_num, HB2.out⟩
    · obtain rfl : k = A := by omega
      obtain ⟨c0, c1, c2, c3, c4, c5⟩ := RD.out _ HB.out k q A1.out
      have CC := hid (CL.out _ HB.out q _ HQ.out)
      go_wp2_with fail
      refine CC.out.mono ?_
      rintro e w2 ⟨rfl, hb⟩
      have HB2 := hid hb
      clear hb CC c0 c1 c2 c3 c4 c5
      go_wp2_with fail
      go_ret
      exact ⟨rfl, HB2.out⟩
end Go.Proofs.YthadfdbkkmmgoaaGreatDoor.So
namespace Go.Proofs.YthadfdbkkmmgoaaGreatDoor.So
open Go.RowKit Go.Shelf Go.Maps
open Go.Proofs.YthadfdbkkmmgoaaGreatDoor.Co (I64 Pt Col CS I64_mid lies)
open Go.Proofs.YthadfdbkkmmgoaaGreatDoor.At (St bAl cell_blk blk_seen blk_free)
open Go.Proofs.YthadfdbkkmmgoaaGreatDoor.Rs (Prt SD Prts PRow pCells pCells_snoc pCells_at Six)
/-- A row of six cells set anew. -/
def sixo (w : World) (b o : Nat) (p : Prt) : World := (((((w.setCell ⟨b, o, none⟩ (.int .i64 p.c)).setCell ⟨b, o + 1, none⟩ (.int .i64 p.v0)).setCell ⟨b, o + 2, none⟩ (.int .i64 p.v1)).setCell ⟨b, o + 3, none⟩ (.int .i64 p.v2)).setCell ⟨b, o + 4, none⟩ (.int .i64 p.v3)).setCell ⟨b, o + 5, none⟩ (.int .i64 p.t)
def lset6 (l : List Value) (o : Nat) (p : Prt) : List Value := (((((l.set o (.int .i64 p.c)).set (o + 1) (.int .i64 p.v0)).set (o + 2) (.int .i64 p.v1)).set (o + 3) (.int .i64 p.v2)).set (o + 4) (.int .i64 p.v3)).set (o + 5) (.int .i64 p.t)
theorem pCells_cons (x : Prt) (l : List Prt) : pCells (x :: l) = .int .i64 x.c :: .int .i64 x.v0 :: .int .i64 x.v1 :: .int .i64 x.v2 :: .int .i64 x.v3 :: .int .i64 x.t :: pCells l := by simp [pCells, Prt.arr]
theorem pCells_set (l : List Prt) (k : Nat) (p : Prt) : lset6 (pCells l) (k * 6) p = pCells (l.set k p) := by
  unfold lset6
  induction l generalizing k with
  | nil => simp [pCells]
  | cons x l ih =>
    cases k with
    | zero => rw [List.set_cons_zero, pCells_cons, pCells_cons]; simp
    | succ k =>
      rw [List.set_cons_succ, pCells_cons, pCells_cons, ← ih, show (k + 1) * 6 = k * 6 + 1 + 1 + 1 + 1 + 1 + 1 by omega]
      simp
theorem pCells_take (l : List Prt) (k : Nat) : (pCells l).take (k * 6) = pCells (l.take k) := by
  induction l generalizing k with
  | nil => simp [pCells]
  | cons x l ih =>
    cases k with
    | zero => simp [pCells]
    | succ k => rw [List.take_succ_cons, pCells_cons, pCells_cons, ← ih, show (k + 1) * 6 = k * 6 + 1 + 1 + 1 + 1 + 1 + 1 by omega]; simp
theorem lset6_take (l : List Value) (o n : Nat) (p : Prt) : (lset6 l o p).take n = lset6 (l.take n) o p := by
  unfold lset6
  rw [List.take_set, List.take_set, List.take_set, List.take_set, List.take_set, List.take_set]
theorem sixo_blk {w : World} {b o : Nat} {cs : Array Value} {e : TypeId} (h : w.heap[b]? = some (.cells cs e (0, 0))) (p : Prt) : ∃ cs', (sixo w b o p).heap[b]? = some (.cells cs' e (0, 0)) ∧ cs'.toList = lset6 cs.toList o p := by
  have h1 := heap_setCell_same w b o _ e (.int .i64 p.c) h
  have h2 := heap_setCell_same _ b (o + 1) _ e (.int .i64 p.v0) h1
  have h3 := heap_setCell_same _ b (o + 2) _ e (.int .i64 p.v1) h2
  have h4 := heap_setCell_same _ b (o + 3) _ e (.int .i64 p.v2) h3
  have h5 := heap_setCell_same _ b (o + 4) _ e (.int .i64 p.v3) h4
  have h6 := heap_setCell_same _ b (o + 5) _ e (.int .i64 p.t) h5
  exact ⟨_, h6, by simp [lset6]⟩
theorem sixo_st (w : World) (b o : Nat) (p : Prt) : St (fun k => k = b) w (sixo w b o p) := by
  have c := fun (w : World) (j : Nat) (v : Value) => St.setCell (S := fun k => k = b) (a := w) (p := ⟨b, j, none⟩) v rfl
  exact (((((c w o _).trans (c _ (o + 1) _) fun _ _ q => q).trans (c _ (o + 2) _) fun _ _ q => q).trans (c _ (o + 3) _) fun _ _ q => q).trans (c _ (o + 4) _) fun _ _ q => q).trans (c _ (o + 5) _) fun _ _ q => q
/-- Where a row that is not empty lies. -/
theorem prts_blk {N : Nat} {W : World} {g n cap : Nat} {l : List Prt} (h : Prts N W (.slice (some ⟨g, 0, none⟩) n cap) l) : n = l.length ∧ N ≤ g ∧ ∃ cur, W.heap[g]? = some (.cells cur 89 (0, 0)) ∧ l.length ≤ cap ∧ cap ≤ maxLen ∧ cur.size = cap * 6 ∧ cur.toList.take (l.length * 6) = pCells l := by
  obtain ⟨-, h | ⟨g', cap', cur, e, h1, h2, h3, h4, h5, h6⟩⟩ := (h : World.ownsRow _ _ _ _ _ _ _)
  · simp at h
  · obtain ⟨rfl, rfl, rfl⟩ : g = g' ∧ n = l.length ∧ cap = cap' := by simpa using e
    exact ⟨rfl, h1, cur, h2, h3, h4, h5, h6⟩
theorem prts_of {N : Nat} {W : World} {g cap : Nat} {l : List Prt} {cur : Array Value} (h1 : N ≤ g) (h2 : W.heap[g]? = some (.cells cur 89 (0, 0))) (h3 : l.length ≤ cap) (h4 : cap ≤ maxLen) (h5 : cur.size = cap * 6) (h6 : cur.toList.take (l.length * 6) = pCells l) : Prts N W (.slice (some ⟨g, 0, none⟩) l.length cap) l := by
  refine ⟨?_, .inr ⟨g, cap, cur, rfl, h1, h2, h3, h4, h5, h6⟩⟩
  have hcl : cur.toList.length = cap * 6 := by simpa using h5
  show (pCells l).length = l.length * 6
  rw [← h6, List.length_take, hcl]
  have : l.length * 6 ≤ cap * 6 := Nat.mul_le_mul_right 6 h3
  omega
theorem prts_set {N : Nat} {W : World} {g n cap : Nat} {l : List Prt} (h : Prts N W (.slice (some ⟨g, 0, none⟩) n cap) l) (k : Nat) (p : Prt) : Prts N (sixo W g (k * 6) p) (.slice (some ⟨g, 0, none⟩) n cap) (l.set k p) := by
  obtain ⟨rfl, h1, cur, h2, h3, h4, h5, h6⟩ := prts_blk h
  obtain ⟨cs', e1, e2⟩ := sixo_blk (o := k * 6) h2 p
  have e3 : cs'.size = cap * 6 := by rw [← h5, ← Array.length_toList, e2]; simp [lset6]
  have := prts_of (l := l.set k p) h1 e1 (by rw [List.length_set]; exact h3) h4 e3 (by rw [List.length_set, e2, lset6_take, h6, pCells_set])
  rw [List.length_set] at this
  exact this
theorem setCells_blk {b : Nat} {e : TypeId} : ∀ (vs : List Value) (o : Nat) (w : World) (cs : Array Value), w.heap[b]? = some (.cells cs e (0, 0)) → ∃ cs', (w.setCells b o vs).heap[b]? = some (.cells cs' e (0, 0)) ∧ cs'.size = cs.size ∧ ∀ m, m ≤ o → cs'.toList.take m = cs.toList.take m
  | [], _, _, cs, h => ⟨cs, h, rfl, fun _ _ => rfl⟩
  | v :: r, o, w, cs, h => by
    have h1 := heap_setCell_same w b o _ e v h
    obtain ⟨cs', a1, a2, a3⟩ := setCells_blk r (o + 1) _ _ h1
    refine ⟨cs', a1, by rw [a2]; simp, fun m hm => ?_⟩
    rw [a3 m (by omega), Array.toList_setIfInBounds, List.take_set]
    exact List.set_eq_of_length_le (by rw [List.length_take]; omega)
theorem setCells_st {b : Nat} : ∀ (vs : List Value) (o : Nat) (w : World), St (fun k => k = b) w (w.setCells b o vs)
  | [], _, _ => St.of_below (Below.refl _ _)
  | v :: r, o, _ => (St.setCell (S := fun k => k = b) (p := ⟨b, o, none⟩) v rfl).trans (setCells_st r (o + 1) _) fun _ _ q => q
/-- clear of the last row. -/
theorem clear_last {N : Nat} {W : World} {g n cap : Nat} {l : List Prt} {x : Prt} (h : Prts N W (.slice (some ⟨g, 0, none⟩) n cap) (l ++ [x])) (o c : Nat) (ho : o = l.length * 6) : ∃ w', (∀ ty, (Builtin.clear_ #[84] ty #[.slice (some ⟨g, o, none⟩) 1 c]).run Tryz.prog W = .ok (.tuple #[]) w') ∧ Prts N w' (.slice (some ⟨g, 0, none⟩) l.length cap) l ∧ St (fun k => k = g) W w' := by
  obtain ⟨rfl, h1, cur, h2, h3, h4, h5, h6⟩ := prts_blk h
  have hl : (l ++ [x]).length = l.length + 1 := by simp
  rw [hl] at h3 h6
  have hz : ∀ w, (zeroValue 89).run Tryz.prog w = .ok (.agg #[.int .i64 0, .int .i64 0, .int .i64 0, .int .i64 0, .int .i64 0, .int .i64 0]) w := by
    intro w
    simp [zeroValue, Tryz.t89]
  have hsz : l.length * 6 + 6 ≤ cur.size := by rw [h5]; omega
  have hst := run_storeCells_cells (P := Tryz.prog) g (l.length * 6) [.int .i64 0, .int .i64 0, .int .i64 0, .int .i64 0, .int .i64 0, .int .i64 0] 0 W (fun j hj => by
    obtain ⟨u, hu⟩ : ∃ u, cur[l.length * 6 + j]? = some u := ⟨_, Array.getElem?_eq_getElem (by simp at hj; omega)⟩
    rw [Nat.add_zero, cell_blk h2 hu]; rfl) (fun j hj => blk_free h2 _) (by simp [Value.oneCell'])
  rw [Nat.add_zero] at hst
  obtain ⟨cs', a1, a2, a3⟩ := setCells_blk [.int .i64 0, .int .i64 0, .int .i64 0, .int .i64 0, .int .i64 0, .int .i64 0] (l.length * 6) W cur h2
  refine ⟨_, fun ty => ?_, prts_of (cur := cs') h1 a1 (by omega) h4 (by rw [a2, h5]) ?_, setCells_st _ _ _⟩
  · rw [ho]
    have e : (Builtin.zeroCells (Value.cells (.agg #[.int .i64 0, .int .i64 0, .int .i64 0, .int .i64 0, .int .i64 0, .int .i64 0])) 1).toList = [.int .i64 0, .int .i64 0, .int .i64 0, .int .i64 0, .int .i64 0, .int .i64 0] := by
      simp [Builtin.zeroCells, Value.cells]
      rfl
    simp [Builtin.clear_, run_underlying Tryz.underlying84, hz, e, hst]
  · rw [a3 _ (Nat.le_refl _)]
    have := congrArg (List.take (l.length * 6)) h6
    rw [List.take_take, Nat.min_eq_left (by omega), pCells_take, List.take_left' rfl] at this
    exact this
end Go.Proofs.YthadfdbkkmmgoaaGreatDoor.So
namespace Go.Proofs.YthadfdbkkmmgoaaGreatDoor.So
open Go.RowKit Go.Shelf Go.Maps
open Go.Proofs.YthadfdbkkmmgoaaGreatDoor.Co (I64 Pt Col CS I64_mid lies)
open Go.Proofs.YthadfdbkkmmgoaaGreatDoor.At (St bAl cell_blk blk_seen blk_free)
open Go.Proofs.YthadfdbkkmmgoaaGreatDoor.Rs (Prt SD Prts PRow pCells Six)
/-- The rows while one part goes. -/
def gone (a b : List Prt) (q : Prt) (k : Nat) : List Prt := a ++ b.take k ++ (q :: b).drop k
theorem gone_len (a b : List Prt) (q : Prt) (k : Nat) (hk : k ≤ b.length) : (gone a b q k).length = a.length + 1 + b.length := by simp [gone]; omega
theorem gone_at (a b : List Prt) (q p : Prt) (k : Nat) (hp : b[k]? = some p) : (gone a b q k)[a.length + 1 + k]? = some p := by
  have hk := (List.getElem?_eq_some_iff.1 hp).1
  unfold gone
  rw [List.getElem?_append_right (by simp; omega), List.getElem?_drop]
  simp
  rw [Nat.min_eq_left (by omega), show k + (a.length + 1 + k - (a.length + k)) = k + 1 by omega, List.getElem?_cons_succ]
  exact hp
theorem gone_next (a b : List Prt) (q p : Prt) (k : Nat) (hp : b[k]? = some p) : (gone a b q k).set (a.length + k) p = gone a b q (k + 1) := by
  have hk := (List.getElem?_eq_some_iff.1 hp).1
  unfold gone
  rw [List.set_append_right _ _ (by simp; omega)]
  simp only [List.length_append, List.length_take, Nat.min_eq_left (Nat.le_of_lt hk), Nat.sub_self]
  rw [show (q :: b).drop k = ((q :: b)[k]'(by simp; omega)) :: (q :: b).drop (k + 1) from List.drop_eq_getElem_cons (by simp; omega), List.set_cons_zero, List.take_add_one, hp]
  simp
theorem gone_end (a b : List Prt) (q : Prt) : ∃ x, gone a b q b.length = (a ++ b) ++ [x] := by
  refine ⟨((q :: b)[b.length]'(by simp)), ?_⟩
  unfold gone
  rw [List.take_of_length_le (Nat.le_refl _)]
  congr 1
  rw [List.drop_eq_getElem_cons (by simp)]
  simp
set_option maxHeartbeats 3200000 in
set_option maxRecDepth 100000 in
theorem delete_any {N : Nat} {W : World} {g n cap : Nat} {a b : List Prt} {q : Prt} (h : Prts N W (.slice (some ⟨g, 0, none⟩) n cap) (a ++ q :: b)) (hn9 : n ≤ 1000) (xb : Nat) (comp : Int) (hx : W.cell? ⟨xb, 0, none⟩ = some (.int .i64 comp)) (hxg : ¬ xb = g) (ha : ∀ x ∈ a, x.c ≠ comp) (hq : q.c = comp) (hbn : ∀ x ∈ b, x.c ≠ comp) :
    Calls Tryz.prog 65 #[.slice (some ⟨g, 0, none⟩) n cap, .func (.func 163) #[] #[.pointer (some ⟨xb, 0, none⟩)]] W fun e W' => e = .returned (.slice (some ⟨g, 0, none⟩) (a ++ b).length cap) ∧ Prts N W' (.slice (some ⟨g, 0, none⟩) (a ++ b).length cap) (a ++ b) ∧ St (fun k => k = g) W W' := by
  obtain ⟨hn, hNg, cur, hcur, hcap, hcm, -, -⟩ := prts_blk h
  have hgW : g < W.heap.size := (Array.getElem?_eq_some_iff.1 hcur).1
  have hxW : xb < W.heap.size := by
    rcases Nat.lt_or_ge xb W.heap.size with q | q
    · exact q
    · simp [World.cell?, Array.getElem?_eq_none q] at hx
  rw [show (a ++ q :: b).length = a.length + 1 + b.length by simp; omega] at hn hcap
  rw [← hn] at hcap
  have IX := hid (index_part h hn hn9 xb comp hx ha hq)
  have CL : Hid (∀ W', St (fun k => k = g) W W' → ∀ (p : Prt) bb, (p.c == comp) = bb → Calls Tryz.prog 163 #[.agg #[.int .i64 p.c, .int .i64 p.v0, .int .i64 p.v1, .int .i64 p.v2, .int .i64 p.v3, .int .i64 p.t], .pointer (some ⟨xb, 0, none⟩)] W' fun e W2 => e = .returned (.bool bb) ∧ Below W'.heap.size W' W2) := fun W' hs p bb hp =>
    rem1_any W' p xb comp (st_cell hs hx hxg) bb hp
  have HB := hid hbn
  have G0 : Hid (gone a b q 0 = a ++ q :: b) := by show _ = _; simp [gone]
  have GA := hid (gone_at a b q)
  have GN := hid (gone_next a b q)
  have GE := hid (gone_end a b q)
  have HL := hid (show (a ++ b).length = a.length + b.length by simp)
  have HH := hid h
  obtain ⟨A, hA⟩ : ∃ A, A = a.length := ⟨_, rfl⟩
  obtain ⟨Bn, hBn⟩ : ∃ Bn, Bn = b.length := ⟨_, rfl⟩
  rw [← hA] at IX GA GN HL hn
  rw [← hBn] at GE HL hn
  have hnI : (n : Int) ≤ 1000 := by omega
  have hAn : (A : Int) + 1 + (Bn : Int) = (n : Int) := by omega
  have hA1 : ¬ ((A : Int) = -1) := by omega
  rw [HL.out]
  have HHN := hid hn
  have HBN := hid hBn
  have hcapI : (n : Int) ≤ (cap : Int) := by omega
  clear h hx ha hq hbn hcur hcm hn9 hn hA hBn hNg
  go_enter Tryz.func65, Tryz.ntmps65
  go_wp2_with fail
  refine IX.out.mono ?_
  rintro e w1 ⟨rfl, hb1⟩
  have P1 := hid (HH.out.later hb1)
  have S1 := hid (St.of_below (S := fun k => k = g) hb1)
  clear hb1 IX
  go_wp2_with fail
  go_loopg [5, 6, 7] Bn (fun gh i j _ wr => ∃ k i0 j0 : Nat, k ≤ Bn ∧ gh = Bn - k ∧ i = .int .i64 (i0 : Int) ∧ j = .int .i64 (j0 : Int) ∧ Hid (i0 = A + k) ∧ Hid (j0 = A + 1 + k) ∧ Hid (Prts N wr (.slice (some ⟨g, 0, none⟩) n cap) (gone a b q k)) ∧ Hid (St (fun k => k = g) W wr))
  case atStart => exact ⟨0, A, A + 1, Nat.zero_le _, rfl, rfl, by go_num, rfl, rfl, (by show Prts _ _ _ _; rw [G0.out]; exact P1.out), S1.out⟩
  case round =>
    obtain ⟨k, i0, j0, hk, rfl, rfl, rfl, HI, HJ, HP, HS⟩ := hrel
    by_cases hlt : k < Bn
    · have hji : (j0 : Int) < (n : Int) := by have := HJ.out; omega
      have hii : (i0 : Int) < (n : Int) := by have := HI.out; omega
      obtain ⟨p, hp⟩ := at_lt b k (by rw [← HBN.out]; exact hlt)
      have hp1 : (gone a b q k)[j0]? = some p := by rw [HJ.out]; exact GA.out p k hp
      obtain ⟨c0, c1, c2, c3, c4, c5⟩ := prow_six HP.out hp1
      have hne : (p.c == comp) = false := by simp [HB.out p (List.mem_of_getElem? hp)]
      obtain ⟨w2, hw2⟩ : ∃ w2, w2 = wr.alloc (.cells #[.int .i64 p.c, .int .i64 p.v0, .int .i64 p.v1, .int .i64 p.v2, .int .i64 p.v3, .int .i64 p.t] 89) := ⟨_, rfl⟩
      have b2 : Below wr.heap.size wr w2 := by rw [hw2]; exact bAl _ _
      have r2 : w2.heap[wr.heap.size]? = some (.cells p.arr 89 (0, 0)) := by rw [hw2]; exact heap_alloc_new wr _
      have s2 := HS.out.trans (St.of_below (S := fun _ => False) b2) fun _ _ q => q.elim
      have CC := hid (CL.out w2 s2 p _ hne)
      have P2 := hid (HP.out.later b2)
      have S2 := hid s2
      have R2 := hid r2
      have HW2 := hid hw2
      have y0 : w2.cell? ⟨wr.heap.size, 0, none⟩ = some (.int .i64 p.c) := cell_blk r2 rfl
      have y1 : w2.cell? ⟨wr.heap.size, 1, none⟩ = some (.int .i64 p.v0) := cell_blk r2 rfl
      have y2 : w2.cell? ⟨wr.heap.size, 2, none⟩ = some (.int .i64 p.v1) := cell_blk r2 rfl
      have y3 : w2.cell? ⟨wr.heap.size, 3, none⟩ = some (.int .i64 p.v2) := cell_blk r2 rfl
      have y4 : w2.cell? ⟨wr.heap.size, 4, none⟩ = some (.int .i64 p.v3) := cell_blk r2 rfl
      have y5 : w2.cell? ⟨wr.heap.size, 5, none⟩ = some (.int .i64 p.t) := cell_blk r2 rfl
      have GK := hid (GN.out p k hp)
      clear hp hp1 hne hw2 b2 r2 s2 HP
      go_upto_region 8 with fail
      rw [← HW2.out]
      go_wp2_with fail
      refine CC.out.mono ?_
      rintro e w3 ⟨rfl, hb3⟩
      have P3 := hid (P2.out.later hb3)
      have S3 := hid (S2.out.trans (St.of_below (S := fun _ => False) hb3) fun _ _ q => q.elim)
      have r3 := blk_seen hb3 (Nat.le_refl _) R2.out
      have z0 : w3.cell? ⟨wr.heap.size, 0, none⟩ = some (.int .i64 p.c) := cell_blk r3 rfl
      have z1 : w3.cell? ⟨wr.heap.size, 1, none⟩ = some (.int .i64 p.v0) := cell_blk r3 rfl
      have z2 : w3.cell? ⟨wr.heap.size, 2, none⟩ = some (.int .i64 p.v1) := cell_blk r3 rfl
      have z3 : w3.cell? ⟨wr.heap.size, 3, none⟩ = some (.int .i64 p.v2) := cell_blk r3 rfl
      have z4 : w3.cell? ⟨wr.heap.size, 4, none⟩ = some (.int .i64 p.v3) := cell_blk r3 rfl
      have z5 : w3.cell? ⟨wr.heap.size, 5, none⟩ = some (.int .i64 p.t) := cell_blk r3 rfl
      obtain ⟨en, -, cu3, hc3, -, -, -, -⟩ := prts_blk P3.out
      obtain ⟨x, hx⟩ := at_lt (gone a b q k) i0 (by rw [← en]; omega)
      obtain ⟨d0, d1, d2, d3, d4, d5⟩ := prow_six P3.out hx
      have f0 := blk_free hc3 (i0 * 6)
      have f1 := blk_free hc3 (i0 * 6 + 1)
      have f2 := blk_free hc3 (i0 * 6 + 2)
      have f3 := blk_free hc3 (i0 * 6 + 3)
      have f4 := blk_free hc3 (i0 * 6 + 4)
      have f5 := blk_free hc3 (i0 * 6 + 5)
      have P4 := hid (prts_set P3.out i0 p)
      have S4 := hid (S3.out.trans (sixo_st w3 g (i0 * 6) p) fun _ _ q => q)
      unfold sixo at P4 S4
      clear hb3 CC r3 hx en hc3 y0 y1 y2 y3 y4 y5 c0 c1 c2 c3 c4 c5
      go_wp2_with fail
      go_roundg (Bn - (k + 1))
      case measure => omega
      case rel => exact ⟨k + 1, i0 + 1, j0 + 1, by omega, rfl, by go_num, by go_num, (by have := HI.out; show _ = _; omega), (by have := HJ.out; show _ = _; omega), (by show Prts _ _ _ _; rw [← GK.out, ← HI.out]; exact P4.out), S4.out⟩
    · obtain rfl : k = Bn := by omega
      have hji : ¬ ((j0 : Int) < (n : Int)) := by have := HJ.out; omega
      have hin : (i0 : Int) ≤ (n : Int) := by have := HI.out; omega
      have hn1 : n - i0 = 1 := by have := HI.out; omega
      have hci : ¬ (cap = i0) := by omega
      obtain ⟨x, hx⟩ := GE.out
      have PX := HP.out
      rw [hx] at PX
      obtain ⟨w5, hcl, P5, S5⟩ := clear_last PX (i0 * 6) (cap - i0) (by rw [HL.out, HI.out])
      have C5 := hid hcl
      have P6 := hid P5
      have S6 := hid (HS.out.trans S5 fun _ _ q => q)
      rw [HL.out] at P6
      have hi9 : (i0 : Int) ≤ 1000 := by omega
      clear PX hx P5 S5 HP HS
      go_wp2_with fail
      go_ret
      exact ⟨by show Ending.returned (.slice (some ⟨g, 0, none⟩) i0 cap) = _; rw [HI.out], P6.out, S6.out⟩
end Go.Proofs.YthadfdbkkmmgoaaGreatDoor.So
namespace Go.Proofs.YthadfdbkkmmgoaaGreatDoor.So
open Go.RowKit Go.Shelf Go.Maps
open Go.Proofs.YthadfdbkkmmgoaaGreatDoor.Co (I64 Pt Col CS I64_mid lies put6_blk put6_st put6)
open Go.Proofs.YthadfdbkkmmgoaaGreatDoor.At (St bAl cell_blk blk_seen blk_free)
open Go.Proofs.YthadfdbkkmmgoaaGreatDoor.Rs (Prt SD Prts PRow okL remP)
/-- The world in which Remove begins. -/
def yw (W : World) (i g comp : Int) : World := ((W.alloc (.cells #[.int .i64 i, .int .i64 g] 144)).alloc (.cells #[.int .i64 comp] 3)).alloc (.cells #[.int .i64 0, .int .i64 0, .int .i64 0, .int .i64 0, .int .i64 0, .int .i64 0] 89)
theorem yw_facts (W : World) (i g comp : Int) : Below W.heap.size W (yw W i g comp) ∧ (yw W i g comp).heap[W.heap.size]? = some (.cells #[.int .i64 i, .int .i64 g] 144 (0, 0)) ∧ (yw W i g comp).heap[W.heap.size + 1]? = some (.cells #[.int .i64 comp] 3 (0, 0)) ∧ (yw W i g comp).heap[W.heap.size + 2]? = some (.cells (Pt.zero.arr 0) 89 (0, 0)) ∧ (yw W i g comp).heap.size = W.heap.size + 3 := by
  obtain ⟨a1, a2, a3⟩ := al_step (n := 0) (Below.refl W.heap.size W) rfl #[.int .i64 i, .int .i64 g] 144
  obtain ⟨b1, b2, b3⟩ := al_step a1 a2 #[.int .i64 comp] 3
  obtain ⟨e1, e2, e3⟩ := al_step b1 b2 #[.int .i64 0, .int .i64 0, .int .i64 0, .int .i64 0, .int .i64 0, .int .i64 0] 89
  have K : ∀ {w : World} {k : Nat} {o : Obj} (q : Obj), w.heap[k]? = some o → (w.alloc q).heap[k]? = some o := fun q h => blk_seen (bAl _ _) (Nat.le_refl _) h
  exact ⟨e1, K _ (K _ a3), K _ b3, e3, e2⟩
/-- What lay behind W lies there still. -/
def Kp (W w3 w : World) : Prop := w3.heap.size ≤ w.heap.size ∧ ∀ k o, W.heap.size ≤ k → w3.heap[k]? = some o → w.heap[k]? = some o
theorem Kp.later {W w3 w w' : World} (h : Kp W w3 w) (hb : Below w.heap.size w w') : Kp W w3 w' := ⟨Nat.le_trans h.1 hb.size, fun k o hk ho => blk_seen hb (Nat.le_refl _) (h.2 k o hk ho)⟩
theorem Kp.st {W w3 w w' : World} (h : Kp W w3 w) {S : Nat → Prop} (hs : St S w w') (hS : ∀ k, W.heap.size ≤ k → k < w3.heap.size → ¬ S k) : Kp W w3 w' := ⟨Nat.le_trans h.1 hs.size, fun k o hk ho => hs.at (h.2 k o hk ho) (hS k hk (Array.getElem?_eq_some_iff.1 ho).1)⟩
theorem prts_form {N : Nat} {W : World} {v : Value} {l : List Prt} (h : Prts N W v l) (hl : l ≠ []) : ∃ g n cap, v = .slice (some ⟨g, 0, none⟩) n cap ∧ n = l.length := by
  obtain ⟨-, ⟨-, h0⟩ | ⟨g, cap, cur, e, -⟩⟩ := (h : World.ownsRow _ _ _ _ _ _ _)
  · exact absurd (List.length_eq_zero_iff.1 h0) hl
  · exact ⟨g, _, cap, e, rfl⟩
theorem rem_split {l : List Prt} (h : Apart l) {q : Prt} (hq : q ∈ l) : ∃ a b, l = a ++ q :: b ∧ (∀ x ∈ a, x.c ≠ q.c) ∧ (∀ x ∈ b, x.c ≠ q.c) ∧ remP l q.c = a ++ b := by
  obtain ⟨a, b, rfl⟩ := List.append_of_mem hq
  have h' := List.pairwise_append.1 h
  have ha : ∀ x ∈ a, x.c ≠ q.c := fun x hx => h'.2.2 x hx q (by simp)
  have hb : ∀ x ∈ b, x.c ≠ q.c := fun x hx e => (List.pairwise_cons.1 h'.2.1).1 x hx e.symm
  refine ⟨a, b, rfl, ha, hb, ?_⟩
  unfold remP
  rw [List.filter_append, List.filter_cons]
  have ea : a.filter (fun x => !(x.c == q.c)) = a := List.filter_eq_self.2 fun x hx => by simp [ha x hx]
  have eb : b.filter (fun x => !(x.c == q.c)) = b := List.filter_eq_self.2 fun x hx => by simp [hb x hx]
  rw [ea, eb]
  simp
/-- The cells that Remove reads. -/
def Erd (W : World) (i g : Nat) (W' : World) : Prop := W'.cell? ⟨W.heap.size, 0, none⟩ = some (.int .i64 (i : Int)) ∧ W'.cell? ⟨W.heap.size, 1, none⟩ = some (.int .i64 (g : Int))
set_option maxRecDepth 100000 in
/-- leave, DeleteFunc, enter. -/
theorem leave_rem {B : Nat} {W w3 : World} {sb : Nat} {c : CV} {s : SD} {i g : Nat} {q : Prt} (h : Sto none B W sb c s) (ha : al s i g) (hq : q ∈ s.at i) (hb3 : Below W.heap.size W w3) (h1 : w3.heap[W.heap.size]? = some (.cells #[.int .i64 (i : Int), .int .i64 (g : Int)] 144 (0, 0))) (h2 : w3.heap[W.heap.size + 1]? = some (.cells #[.int .i64 q.c] 3 (0, 0))) (hz : W.heap.size + 2 < w3.heap.size) (W' : World) (hb : Below w3.heap.size w3 W') :
    Calls Tryz.prog 154 #[.pointer (some ⟨sb, 0, none⟩), .agg #[.int .i64 (i : Int), .int .i64 (g : Int)]] W' fun e W2 => ∃ v, e = .returned v ∧ Hid (∀ w, Below W2.heap.size W2 w → Erd W i g w) ∧
      Hid (∀ w, Below W2.heap.size W2 w → Calls Tryz.prog 65 #[v, .func (.func 163) #[] #[.pointer (some ⟨W.heap.size + 1, 0, none⟩)]] w fun e W3 => ∃ v', e = .returned v' ∧ Hid (∀ w, Below W3.heap.size W3 w → Erd W i g w) ∧
        Hid (∀ w, Below W3.heap.size W3 w → Calls Tryz.prog 153 #[.pointer (some ⟨sb, 0, none⟩), .agg #[.int .i64 (i : Int), .int .i64 (g : Int)], v'] w fun e W4 => e = .returned (.tuple #[]) ∧ Hid (Erd W i g W4) ∧ Hid (Kp W w3 W4 ∧ ∃ c', Sto none B W4 sb c' (entered s i (remP (s.at i) q.c)) ∧ c'.t = c.t ∧ c'.f (W.heap.size + 2) = (0, 0, 0) ∧ Gw c c' W W4))) := by
  obtain ⟨n, j, m, own, y, A⟩ := h.stands ha (by simp)
  obtain ⟨a, b, hl, hla, hlb, hlr⟩ := rem_split (okL_apart A.ok.1) hq
  have ER : ∀ w, Kp W w3 w → Erd W i g w := fun w hk => ⟨cell_blk (hk.2 _ _ (Nat.le_refl _) h1) rfl, cell_blk (hk.2 _ _ (Nat.le_refl _) h1) rfl⟩
  refine (leave_lv h ha (hb3.trans (hb.mono hb3.size)) (N := w3.heap.size) hb.size hb3.size).mono ?_
  rintro e W2 ⟨v, c3, rfl, L, q2⟩
  have k2 : Kp W w3 W2 := (Kp.later (w := w3) ⟨Nat.le_refl _, fun _ _ _ o => o⟩ hb).st q2 fun k hk _ q => by omega
  refine ⟨v, rfl, fun w hw => ER w (k2.later hw), fun w hw => ?_⟩
  obtain ⟨gb, nn, cap, rfl, hnn⟩ := prts_form L.parts (by rw [hl]; simp)
  have pw := L.parts.later hw
  have hgN := (pw.lt gb rfl).1
  have hlen : (s.at i).length ≤ 1000 := by have := Rs.okL_few A.ok.1 h.okw.1; omega
  have pw' := pw
  rw [hl] at pw'
  refine (delete_any pw' (by omega) (W.heap.size + 1) q.c (cell_blk ((k2.later hw).2 _ _ (by omega) h2) rfl) (by omega) hla rfl hlb).mono ?_
  rintro e W3 ⟨rfl, p3, s3⟩
  have k3 : Kp W w3 W3 := (k2.later hw).st s3 fun k _ hk q => by omega
  have L2 := L.later hw
  have z3 : c3.f gb = (0, 0, 0) := L.out gb rfl
  have t3 := L2.sto.keep s3 fun k hk e => hk (by rw [e]; exact z3)
  have g3 : Gw c c3 W W3 := ⟨L2.gw.st.trans s3 fun k hk e => by have := hb3.size; omega, L2.gw.new⟩
  refine ⟨_, rfl, fun w' hw' => ER w' (k3.later hw'), fun w' hw' => ?_⟩
  refine (enter_any (t3.later hw') ha (prow_out (p3.later hw') fun k hk e => e (by have e' : gb = k := (by simpa [Value.ownBlock] using hk); rw [← e']; exact z3)) (List.Perm.refl _) (by rw [← hlr]; exact okE_rem A.ok q.c)).mono ?_
  rintro e W4 ⟨rfl, c', e1, e2, e3⟩
  have k4 : Kp W w3 W4 := (k3.later hw').st e3.st fun k hk _ e => by have := L.low k e; omega
  refine ⟨rfl, ER W4 k4, k4, c', hlr ▸ e1, e2.trans L.t, Classical.byContradiction fun e => ?_, (g3.trans (Gw.of_below hw')).trans e3⟩
  rcases e3.new _ e with e | e
  · have := L.low _ e; omega
  · have := k3.1; have := hw'.size; omega
end Go.Proofs.YthadfdbkkmmgoaaGreatDoor.So
