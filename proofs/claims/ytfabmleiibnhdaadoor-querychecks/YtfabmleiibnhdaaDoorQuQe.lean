/- Means. -/
import Derived.Test.YtfabmleiibnhdaaDoorQuQd
namespace Go.Proofs.YtfabmleiibnhdaaDoor.Qu
open Go.RowKit Go.Shelf Go.Maps
open Go.Proofs.YtfabmleiibnhdaaDoor.Rs (Prt PRow Six six_blk)
open Go.Proofs.YtfabmleiibnhdaaDoor.At (St bAl cell_blk blk_seen blk_free)
set_option maxHeartbeats 800000 in
set_option maxRecDepth 100000 in
theorem lately_any {W : World} {mb z tb sb : Nat} {f : Int → Option Int} {s : Int} (h : Tm W mb z f) (ht : W.cell? ⟨tb, 0, none⟩ = some (.map (some mb))) (hs : W.cell? ⟨sb, 0, none⟩ = some (.int .i64 s)) (i : Int) (hi : J64 i) :
    Calls Tryd.prog 21 #[.int .i64 i, .pointer (some ⟨tb, 0, none⟩), .pointer (some ⟨sb, 0, none⟩)] W fun e W' => e = .returned (.bool ((f i).isSome && decide (s ≤ (f i).getD 0))) ∧ W' = W := by
  have C := hid (thas_any h i hi)
  have l1 := h.look1 i hi
  clear h hi
  cases hn : f i with
  | none =>
    rw [hn] at C l1
    clear hn
    go_enter Tryd.func21, Tryd.ntmps21
    go_wp2_with fail
    refine C.out.mono ?_
    rintro e w1 ⟨rfl, hw⟩
    obtain rfl := hw.symm
    go_wp2_with fail
    go_ret
    exact ⟨rfl, rfl⟩
  | some x =>
    rw [hn] at C l1
    have l1 : (Instr.lookup 69 (.map (some mb)) (.int .i64 i) false).run Tryd.prog W = .ok (.int .i64 x) W := l1
    clear hn
    go_enter Tryd.func21, Tryd.ntmps21
    go_wp2_with fail
    refine C.out.mono ?_
    rintro e w1 ⟨rfl, hw⟩
    obtain rfl := hw.symm
    go_wp2_with fail
    go_ret
    exact ⟨by simp, rfl⟩
theorem enters_has : ∀ args w, (callFunc 22 args).run Tryd.prog w = .ok (.enter 22 args) w := enters_of Tryd.func22 (by kernel_rfl) rfl
theorem enters_lacks : ∀ args w, (callFunc 24 args).run Tryd.prog w = .ok (.enter 24 args) w := enters_of Tryd.func24 (by kernel_rfl) rfl
theorem enters_lately : ∀ args w, (callFunc 21 args).run Tryd.prog w = .ok (.enter 21 args) w := enters_of Tryd.func21 (by kernel_rfl) rfl
theorem snc_wrap (fr : Int) (h : J64 fr) : wrap64 ((if fr < -4611686018427387904 then -4611686018427387904 else fr) - 1) = snc fr := by
  have h1 : -9223372036854775808 ≤ fr ∧ fr ≤ 9223372036854775807 := by
    unfold J64 Lit.wf at h
    simp [IntKind.min, IntKind.max, IntKind.signed, IntKind.bits] at h
    omega
  unfold snc
  by_cases q : fr < -4611686018427387904
  · rw [if_pos q, show max fr (-4611686018427387904) = -4611686018427387904 by omega]
    unfold wrap64; omega
  · rw [if_neg q, show max fr (-4611686018427387904) = fr by omega]
    unfold wrap64; omega
set_option maxHeartbeats 1600000 in
set_option maxRecDepth 100000 in
theorem means_any {W : World} {v : Value} {ps : List Prt} (a b c : Nat) (ha : a < 4294967296) (hb : b < 4294967296) (hc : c < 4294967296) (fr : Int) (hfr : J64 fr) (hP : PRow W v ps) (hl : ps.length ≤ 1000) (hJ : ∀ p ∈ ps, J64 p.c ∧ J64 p.t) :
    Calls Tryd.prog 9 #[.agg #[.int .u32 (a : Int), .int .u32 (b : Int), .int .u32 (c : Int)], .int .i64 fr, v] W fun e W' => e = .returned (.bool (meansB a b c fr ps)) ∧ Below W.heap.size W W' := by
  obtain ⟨w1, hw1⟩ : ∃ w1, w1 = W.alloc (.cells #[.int .u32 (a : Int), .int .u32 (b : Int), .int .u32 (c : Int)] 29) := ⟨_, rfl⟩
  have b1 : Below W.heap.size W w1 := by rw [hw1]; exact bAl _ _
  have r1 : w1.heap[W.heap.size]? = some (.cells #[.int .u32 (a : Int), .int .u32 (b : Int), .int .u32 (c : Int)] 29 (0, 0)) := by rw [hw1]; exact heap_alloc_new W _
  have NW := hid (newest_any (hP.later b1) hl hJ)
  have HW1 := hid hw1
  have B1 := hid b1
  have R1 := hid r1
  obtain ⟨pa, pc, rfl, -⟩ := hP
  have SW := hid (snc_wrap fr hfr)
  have EV : Hid (meansB a b c fr ps = (evB a (fun i => (tk ps i).isSome) && evB b (fun i => (tk ps i).isNone) && evB c (fun i => (tk ps i).isSome && decide (snc fr ≤ (tk ps i).getD 0)))) := by
    show _ = _
    unfold meansB
    rw [show hasP ps = (fun i => (tk ps i).isSome) from funext fun i => (tk_has ps i).symm, show (fun i => lateP ps i (snc fr)) = (fun i => (tk ps i).isSome && decide (snc fr ≤ (tk ps i).getD 0)) from funext fun i => (tk_late ps i (snc fr)).symm]
    simp only [Option.not_isSome]
  clear hw1 b1 r1 hfr hJ
  go_enter Tryd.func9, Tryd.ntmps9
  go_upto_region 1 with fail
  rw [← HW1.out]
  go_wp2_with fail
  refine NW.out.mono ?_
  rintro e w2 ⟨mb, rfl, ht2, hlo, hb2⟩
  have T2 := hid ht2
  have B2 := hid hb2
  clear NW ht2 hb2 hlo
  go_upto_region 3 with fail
  rw [SW.out]
  generalize (if fr < -4611686018427387904 then -4611686018427387904 else fr) = mx
  generalize snc fr = s at *
  obtain ⟨w4, hw4⟩ : ∃ w4, w4 = (w2.alloc (.cells #[.map (some mb)] 69)).alloc (.cells #[.int .i64 s] 3) := ⟨_, rfl⟩
  have b3 := bAl w2 (.cells #[.map (some mb)] 69)
  have b4 := bAl (w2.alloc (.cells #[.map (some mb)] 69)) (.cells #[.int .i64 s] 3)
  have bb : Below w2.heap.size w2 w4 := by rw [hw4]; exact b3.trans (b4.mono b3.size)
  have r3 : w4.heap[w2.heap.size]? = some (.cells #[.map (some mb)] 69 (0, 0)) := by rw [hw4]; exact blk_seen b4 (Nat.le_refl _) (heap_alloc_new w2 _)
  have r4 : w4.heap[w2.heap.size + 1]? = some (.cells #[.int .i64 s] 3 (0, 0)) := by
    have := heap_alloc_new (w2.alloc (.cells #[.map (some mb)] 69)) (.cells #[.int .i64 s] 3)
    rw [hw4]; simpa using this
  have rf : w4.heap[W.heap.size]? = some (.cells #[.int .u32 (a : Int), .int .u32 (b : Int), .int .u32 (c : Int)] 29 (0, 0)) := blk_seen (B2.out.trans (bb.mono B2.out.size)) (Nat.le_refl _) R1.out
  have T4 := hid (T2.out.later bb)
  have B4 := hid ((B1.out.trans (B2.out.mono B1.out.size)).trans (bb.mono (Nat.le_trans B1.out.size B2.out.size)))
  rw [← hw4]
  have KC : Hid (∀ W', Below w4.heap.size w4 W' → W'.cell? ⟨W.heap.size, 0, none⟩ = some (.int .u32 (a : Int)) ∧ W'.cell? ⟨W.heap.size, 1, none⟩ = some (.int .u32 (b : Int)) ∧ W'.cell? ⟨W.heap.size, 2, none⟩ = some (.int .u32 (c : Int)) ∧ W'.cell? ⟨w2.heap.size, 0, none⟩ = some (.map (some mb)) ∧ W'.cell? ⟨w2.heap.size + 1, 0, none⟩ = some (.int .i64 s)) := fun W' hb =>
    ⟨cell_blk (blk_seen hb (Nat.le_refl _) rf) rfl, cell_blk (blk_seen hb (Nat.le_refl _) rf) rfl, cell_blk (blk_seen hb (Nat.le_refl _) rf) rfl, cell_blk (blk_seen hb (Nat.le_refl _) r3) rfl, cell_blk (blk_seen hb (Nat.le_refl _) r4) rfl⟩
  have J32 : ∀ c : Nat, c < 32 → J64 ((c : Nat) : Int) := fun c h => J64_mid (by omega) (by omega)
  have E1 : Hid (Calls Tryd.prog 23 #[.int .u32 (a : Int), .func (.func 22) #[.map (some mb)] #[]] w4 fun e W' => e = .returned (.bool (evB a fun i => (tk ps i).isSome)) ∧ Below w4.heap.size w4 W') :=
    every_any _ #[.map (some mb)] #[] enters_has a ha _ fun c w hc hb => (thas_any (T4.out.later hb) _ (J32 c hc)).mono fun _ _ ⟨q1, q2⟩ => ⟨q1, by rw [q2]; exact Below.refl _ _⟩
  have E2 : Hid (∀ w', Below w4.heap.size w4 w' → Calls Tryd.prog 23 #[.int .u32 (b : Int), .func (.func 24) #[.map (some mb)] #[]] w' fun e W' => e = .returned (.bool (evB b fun i => (tk ps i).isNone)) ∧ Below w'.heap.size w' W') := fun w' hw' =>
    every_any _ #[.map (some mb)] #[] enters_lacks b hb _ fun c w hc hb => (lacks_any ((T4.out.later hw').later hb) _ (J32 c hc)).mono fun _ _ ⟨q1, q2⟩ => ⟨q1, by rw [q2]; exact Below.refl _ _⟩
  have E3 : Hid (∀ w', Below w4.heap.size w4 w' → Calls Tryd.prog 23 #[.int .u32 (c : Int), .func (.func 21) #[] #[.pointer (some ⟨w2.heap.size, 0, none⟩), .pointer (some ⟨w2.heap.size + 1, 0, none⟩)]] w' fun e W' => e = .returned (.bool (evB c fun i => (tk ps i).isSome && decide (s ≤ (tk ps i).getD 0))) ∧ Below w'.heap.size w' W') := fun w' hw' =>
    every_any _ #[] #[.pointer (some ⟨w2.heap.size, 0, none⟩), .pointer (some ⟨w2.heap.size + 1, 0, none⟩)] enters_lately c hc _ fun c w hc hb => by
      have q := KC.out w (hw'.trans (hb.mono hw'.size))
      exact (lately_any ((T4.out.later hw').later hb) q.2.2.2.1 q.2.2.2.2 _ (J32 c hc)).mono fun _ _ ⟨q1, q2⟩ => ⟨q1, by rw [q2]; exact Below.refl _ _⟩
  generalize (evB a fun i => (tk ps i).isSome) = z1 at *
  generalize (evB b fun i => (tk ps i).isNone) = z2 at *
  generalize (evB c fun i => (tk ps i).isSome && decide (s ≤ (tk ps i).getD 0)) = z3 at *
  obtain ⟨k0, -, -, k3, -⟩ := KC.out w4 (Below.refl _ _)
  clear hw4 b3 b4 bb r3 r4 rf T2 T4 R1 B1 B2 HW1 SW
  go_wp2_with fail
  refine E1.out.mono ?_
  rintro e w5 ⟨rfl, hb5⟩
  have B5 := hid hb5
  have BW5 := hid (B4.out.trans (hb5.mono B4.out.size))
  obtain ⟨-, k1, -, k3, -⟩ := KC.out w5 hb5
  have E2' := hid (E2.out w5 hb5)
  clear E1 E2 k0 hb5
  cases z1 with
  | false =>
    go_wp2_with fail
    go_ret
    exact ⟨by rw [EV.out]; rfl, BW5.out⟩
  | true =>
    go_wp2_with fail
    refine E2'.out.mono ?_
    rintro e w6 ⟨rfl, hb6⟩
    have b6 := B5.out.trans (hb6.mono B5.out.size)
    have BW6 := hid (BW5.out.trans (hb6.mono BW5.out.size))
    obtain ⟨-, -, k2, -, -⟩ := KC.out w6 b6
    have E3' := hid (E3.out w6 b6)
    clear E2' E3 k1 k3 hb6 b6
    cases z2 with
    | false =>
      go_wp2_with fail
      go_ret
      exact ⟨by rw [EV.out]; rfl, BW6.out⟩
    | true =>
      go_wp2_with fail
      refine E3'.out.mono ?_
      rintro e w7 ⟨rfl, hb7⟩
      have BW7 := hid (BW6.out.trans (hb7.mono BW6.out.size))
      clear E3' hb7
      go_wp2_with fail
      go_ret
      exact ⟨by rw [EV.out]; simp, BW7.out⟩
end Go.Proofs.YtfabmleiibnhdaaDoor.Qu
