/- CodeTable: jump. -/
import Derived.Test.YtkhhiddemihnbaaDoorCwLg
namespace Go.Proofs.YtkhhiddemihnbaaDoor.Cw
open Go.RowKit Go.Shelf
attribute [local go_sem] beq_no beq_yes bne_yes bne_no
set_option maxHeartbeats 40000000 in
set_option maxRecDepth 100000 in
theorem table_b (W : World) (Ad : Nat → Addr) (hO : OpsAt W) (hE : Env8 W Ad) (op : Int) (s : ByteArray) (h100 : ¬ ((100 : Int) < (s.size : Int))) (kb x20 x21 x35 jb ob : Bool) (hk : known op = kb) (h20 : (op == 20) = x20) (h21 : (op == 21) = x21) (h35 : (op == 35) = x35) (hj : jmp op = jb) (ho : onw op = ob) (hm : (kb = true ∧ x20 = true ∧ x21 = false ∧ x35 = false ∧ jb = true ∧ ob = false)) : Calls Tryd.prog 3 #[.int .i64 op, .string s] W fun e W' => e = .returned (.bool true) ∧ Below W.heap.size W W' := by
  have HO := hid hO
  have AW := hid (awake_any W Ad hO hE)
  clear hO hE
  have OF := hid (fun W' => of_any op W')
  unfold opV at OF
  have NA := hid (fun W' (h : OpsAt W') => name_any W' h op)
  have AR := hid (fun W' (h : OpsAt W') => args_any W' h op)
  have MV := hid (fun W' (h : OpsAt W') => moves_any W' h op)
  have JU := hid (fun W' => jumps_any W' op)
  have FI := hid (fun W' (h : OpsAt W') => find_any W' h s)
  have LW := hid (lastw_all s)
  have hww : ((word op).toList == (word op).toList) = true := beq_self_eq_true _
  rw [hk] at OF
  rw [hj, ho] at JU
  clear hk hj ho
  generalize word op = wd at *
  generalize args op = n1 at *
  generalize takes op = n2 at *
  generalize lays op = n3 at *
  have hn1 : (n1 == n1) = true := beq_self_eq_true _
  have hn2 : (n2 == n2) = true := beq_self_eq_true _
  have hn3 : (n3 == n3) = true := beq_self_eq_true _
  obtain ⟨rfl, rfl, rfl, rfl, rfl, rfl⟩ := hm
  all_goals
    have i20 := Nonempty.intro h20
    have i21 := Nonempty.intro h21
    have i35 := Nonempty.intro h35
    go_enter Tryd.func3, Tryd.ntmps3
    go_wp2_with fail
    refine AW.out.mono ?_
    rintro e w1 ⟨rfl, b1⟩
    have B1 := hid b1
    clear b1 AW
    go_wp2_with fail
    refine (OF.out _).mono ?_
    rintro e w2 ⟨rfl, b2⟩
    have B2 := hid (B1.out.trans (b2.mono B1.out.size))
    have BA : Hid (Below w2.heap.size w2 (w2.alloc (.cells #[.string wd, .int .i64 n1, .int .i64 n2, .int .i64 n3] 24))) := bAl _ _
    have B3 := hid (B2.out.trans (BA.out.mono B2.out.size))
    clear b2 OF
    go_upto_region 6 with fail
    have c : ∀ (j : Nat) (u : Value), #[Value.string wd, .int .i64 n1, .int .i64 n2, .int .i64 n3][j]? = some u → (w2.alloc (.cells #[.string wd, .int .i64 n1, .int .i64 n2, .int .i64 n3] 24)).cell? ⟨w2.heap.size, j, none⟩ = some u := fun j u h => cell_blk (heap_alloc_new w2 _) h
    have C : Hid ((w2.alloc (.cells #[.string wd, .int .i64 n1, .int .i64 n2, .int .i64 n3] 24)).cell? ⟨w2.heap.size, 0, none⟩ = some (.string wd) ∧ (w2.alloc (.cells #[.string wd, .int .i64 n1, .int .i64 n2, .int .i64 n3] 24)).cell? ⟨w2.heap.size, 1, none⟩ = some (.int .i64 n1) ∧ (w2.alloc (.cells #[.string wd, .int .i64 n1, .int .i64 n2, .int .i64 n3] 24)).cell? ⟨w2.heap.size, 2, none⟩ = some (.int .i64 n2) ∧ (w2.alloc (.cells #[.string wd, .int .i64 n1, .int .i64 n2, .int .i64 n3] 24)).cell? ⟨w2.heap.size, 3, none⟩ = some (.int .i64 n3)) := ⟨c 0 _ rfl, c 1 _ rfl, c 2 _ rfl, c 3 _ rfl⟩
    clear c
    generalize w2.alloc (.cells #[.string wd, .int .i64 n1, .int .i64 n2, .int .i64 n3] 24) = w3 at *
    have M3 := hid (MV.out _ (HO.out.later B3.out))
    go_wp2_with fail
    refine M3.out.mono ?_
    rintro e w4 ⟨rfl, b4⟩
    have B4 := hid (B3.out.trans (b4.mono B3.out.size))
    have C4 : Hid (w4.cell? ⟨w2.heap.size, 0, none⟩ = some (.string wd) ∧ w4.cell? ⟨w2.heap.size, 1, none⟩ = some (.int .i64 n1) ∧ w4.cell? ⟨w2.heap.size, 2, none⟩ = some (.int .i64 n2) ∧ w4.cell? ⟨w2.heap.size, 3, none⟩ = some (.int .i64 n3)) := ⟨seen b4 (Nat.le_refl _) C.out.1, seen b4 (Nat.le_refl _) C.out.2.1, seen b4 (Nat.le_refl _) C.out.2.2.1, seen b4 (Nat.le_refl _) C.out.2.2.2⟩
    clear b4 M3 MV C
    go_wp2_with fail
    refine (JU.out _).mono ?_
    rintro e w5 ⟨rfl, b5⟩
    have B5 := hid (B4.out.trans (b5.mono B4.out.size))
    obtain ⟨c0, c1, c2, c3⟩ : w5.cell? ⟨w2.heap.size, 0, none⟩ = some (.string wd) ∧ w5.cell? ⟨w2.heap.size, 1, none⟩ = some (.int .i64 n1) ∧ w5.cell? ⟨w2.heap.size, 2, none⟩ = some (.int .i64 n2) ∧ w5.cell? ⟨w2.heap.size, 3, none⟩ = some (.int .i64 n3) := ⟨seen b5 (Nat.le_refl _) C4.out.1, seen b5 (Nat.le_refl _) C4.out.2.1, seen b5 (Nat.le_refl _) C4.out.2.2.1, seen b5 (Nat.le_refl _) C4.out.2.2.2⟩
    clear b5 JU C4
    generalize w2.heap.size = rb at *
    go_wp2_with fail
    have N5 := hid (fun W' (h : Below w5.heap.size w5 W') => NA.out W' (HO.out.later (B5.out.trans (h.mono B5.out.size))))
    have A5 := hid (fun W' (h : Below w5.heap.size w5 W') => AR.out W' (HO.out.later (B5.out.trans (h.mono B5.out.size))))
    clear NA AR
    first | (go_region_held (fun V => V.cell? ⟨rb, 0, none⟩ = some (.string wd) ∧ V.cell? ⟨rb, 1, none⟩ = some (.int .i64 n1) ∧ V.cell? ⟨rb, 2, none⟩ = some (.int .i64 n2) ∧ V.cell? ⟨rb, 3, none⟩ = some (.int .i64 n3)) (first | go_keep | (exact ⟨seen (by assumption) (Nat.le_refl _) c0, seen (by assumption) (Nat.le_refl _) c1, seen (by assumption) (Nat.le_refl _) c2, seen (by assumption) (Nat.le_refl _) c3⟩)) (first
      | (go_at_call 13; refine (N5.out _ (Bq (Below.refl _ _) 1)).mono ?_; rintro e w6 ⟨rfl, b6⟩; have h6 : Below w5.heap.size w5 w6 := (Bq (Below.refl _ _) 1).trans b6)
      | (go_at_call 14; refine (A5.out _ h6).mono ?_; rintro e w7 ⟨rfl, b7⟩; have h7 : Below w5.heap.size w5 w7 := h6.trans (b7.mono h6.size)))) | fail
    go_wp2_with fail
    refine (FI.out _ (by first | exact HO.out.later (B5.out.trans (h7.mono B5.out.size)) | exact HO.out.later (Bq (B5.out.trans (h7.mono B5.out.size)) _))).mono ?_
    rintro e w8 ⟨rfl, hw8⟩
    have B8 : Hid (Below W.heap.size W w8) := by
      show Below W.heap.size W w8
      rw [hw8]
      first | exact B5.out.trans (h7.mono B5.out.size) | exact Bq (B5.out.trans (h7.mono B5.out.size)) _
    clear hw8 h7 h6 b6 b7 c0 c1 c2 c3 N5 A5 FI
    go_wp2_with fail
    go_loopw [13, 14, 15, 16, 17] (fun wa ha i _ _ wr => ∃ k : Nat, k ≤ 36 ∧ wa = .int .i64 (lastw s k).1 ∧ ha = .bool (lastw s k).2 ∧ i = .int .i64 (k : Int) ∧ Hid (Below W.heap.size W wr)) (fun _ _ i _ _ _ => 36 - (intOf i).toNat)
    case atStart => exact ⟨0, Nat.zero_le _, rfl, rfl, rfl, B8⟩
    case round =>
      obtain ⟨k, hk, rfl, rfl, rfl, HB⟩ := hrel
      by_cases hlt : k < 36
      · have hki : (k : Int) < 36 := by omega
        have OK := hid (of_nat hlt wr)
        have LN := hid (lastw_next s k)
        generalize args (k : Int) = m1 at *
        generalize takes (k : Int) = m2 at *
        generalize lays (k : Int) = m3 at *
        generalize wordN k = x at *
        generalize lastw s k = lk at *
        obtain ⟨l1, l2⟩ := lk
        simp only []
        go_wp2_with fail
        refine OK.out.mono ?_
        rintro e w9 ⟨rfl, b9⟩
        have B9 := hid (HB.out.trans (b9.mono HB.out.size))
        have BR := hid (B9.out.trans ((bAl w9 (.cells #[.string x, .int .i64 m1, .int .i64 m2, .int .i64 m3] 24)).mono B9.out.size))
        have z0 : (w9.alloc (.cells #[.string x, .int .i64 m1, .int .i64 m2, .int .i64 m3] 24)).cell? ⟨w9.heap.size, 0, none⟩ = some (.string x) := cell_blk (heap_alloc_new w9 _) rfl
        clear b9 OK
        go_upto_region 17 with fail
        generalize w9.alloc (.cells #[.string x, .int .i64 m1, .int .i64 m2, .int .i64 m3] 24) = w10 at *
        cases hq : eqS x s with
        | true =>
          have hq' : (x.toList == s.toList) = true := hq
          rw [hq] at LN
          clear hq
          go_wp2_with fail
          go_roundw
          case rel => exact ⟨k + 1, by omega, by rw [LN.out]; rfl, by rw [LN.out]; rfl, by go_num, BR⟩
          case measure => simp [intOf]; omega
        | false =>
          have hq' : (x.toList == s.toList) = false := hq
          rw [hq] at LN
          clear hq
          go_wp2_with fail
          go_roundw
          case rel => exact ⟨k + 1, by omega, by rw [LN.out]; rfl, by rw [LN.out]; rfl, by go_num, BR⟩
          case measure => simp [intOf]; omega
      · have hki : ¬ ((k : Int) < 36) := by omega
        obtain rfl : k = 36 := by omega
        have L1 : (lastw s 36).1 = foundI s := by rw [LW.out]
        have L2 : (lastw s 36).2 = foundB s := by rw [LW.out]
        rw [L1, L2]
        clear L1 L2 LW
        generalize foundI s = fi at *
        have hff : (fi == fi) = true := beq_self_eq_true _
        cases foundB s
        all_goals
          go_wp2_with fail
          go_ret
          exact ⟨rfl, HB.out⟩
end Go.Proofs.YtkhhiddemihnbaaDoor.Cw
