/- BadgeStays: the walk. -/
import Derived.Test.YtagjmggiaffihabDoorBdBt
import Derived.Test.YtagjmggiaffihabDoorBdBo
namespace Go.Proofs.YtagjmggiaffihabDoor.Bd
open Go.RowKit Go.Shelf Go.Maps
/-- So many have numbers, each its own. -/
def os (k : Nat) : Prs := (List.range k).map fun (j : Nat) => ((j : Int) + 1, (j : Int) + 1, (1 : Int))
theorem os_succ (k : Nat) : os (k + 1) = os k ++ [((k : Int) + 1, (k : Int) + 1, 1)] := by unfold os; rw [List.range_succ, List.map_append]; rfl
theorem os_mem {k : Nat} {x : Int × Int × Int} : x ∈ os k ↔ ∃ j : Nat, j < k ∧ x = ((j : Int) + 1, (j : Int) + 1, 1) := by
  unfold os
  rw [List.mem_map]
  constructor
  · rintro ⟨j, hj, rfl⟩
    exact ⟨j, by simpa using hj, rfl⟩
  · rintro ⟨j, hj, rfl⟩
    exact ⟨j, by simpa using hj, rfl⟩
theorem give_os (k : Nat) : ins ((k : Int) + 1, (k : Int) + 1, 1) (os k) = os (k + 1) := by
  rw [os_succ]
  refine ins_last _ _ fun x hx => ?_
  obtain ⟨j, hj, rfl⟩ := os_mem.1 hx
  show (j : Int) + 1 < (k : Int) + 1
  omega
theorem num_os (k : Nat) : num (os k) ((k : Int) + 1, 1) = none := num_none fun x hx e => by
  obtain ⟨j, hj, rfl⟩ := os_mem.1 hx
  simp at e
  omega
set_option maxHeartbeats 25600000 in
set_option maxRecDepth 100000 in
theorem stays_law (w : World) (Ad : Nat → Addr) (hE : Env5 w Ad) (many whom ei eg : Int) (hi : I64 ei) (hg : I64 eg) :
    Calls Tryd.prog 5 #[.int .i64 many, .int .i64 whom, .agg #[.int .i64 ei, .int .i64 eg]] w fun e w' => e = .returned (.bool true) ∧ Below w.heap.size w w' := by
  obtain ⟨u1, n', hn', hu1, hr1⟩ := rem_at many 60 (by decide)
  have hr1 : u1.tmod 60 = (n' : Int) := hr1
  obtain ⟨n, hnn⟩ : ∃ n, n = n' + 1 := ⟨_, rfl⟩
  have hn60 : n ≤ 60 := by omega
  have hni : (n : Int) ≤ 60 := by omega
  have hn1 : 1 ≤ n := by omega
  have hsum1 : IntKind.i64.wrap (1 + (n' : Int)) = (n : Int) := by rw [show 1 + (n' : Int) = (n : Int) by omega]; exact wrap_mid (by omega) (by omega)
  have hnn' : (n' : Int) ≤ 59 := by omega
  obtain ⟨u2, k', hk', hu2, hr2⟩ := rem_at whom n (by omega)
  obtain ⟨k, hkk⟩ : ∃ k, k = k' + 1 := ⟨_, rfl⟩
  have hkn : k ≤ n := by omega
  have hki : (k : Int) ≤ (n : Int) := by omega
  have hk1 : (1 : Int) ≤ (k : Int) := by omega
  have hk1n : 1 ≤ k := by omega
  have hsum2 : IntKind.i64.wrap (1 + (k' : Int)) = (k : Int) := by rw [show 1 + (k' : Int) = (k : Int) by omega]; exact wrap_mid (by omega) (by omega)
  have hkk' : (k' : Int) ≤ 59 := by omega
  have hnpos : (0 : Int) < (n : Int) := by omega
  obtain ⟨w0, hw0⟩ : ∃ w0, w0 = w.alloc (.cells #[.int .i64 ei, .int .i64 eg] 27) := ⟨_, rfl⟩
  have b0 : Below w.heap.size w w0 := by rw [hw0]; exact bAl _ _
  have r0 : w0.heap[w.heap.size]? = some (.cells #[.int .i64 ei, .int .i64 eg] 27 (0, 0)) := by rw [hw0]; exact heap_alloc_new w _
  have B0 := hid b0
  have R0 := hid r0
  have HW0 := hid hw0
  have HI := hid hi
  have HG := hid hg
  have AW := hid (awake_any Ad w0 (hE.later b0))
  have HE := hid (hE.later b0)
  clear hE b0 r0 hw0 hnn hkk hi hg
  go_enter Tryd.func5, Tryd.ntmps5
  go_upto_region 1 with fail
  rw [← HW0.out]
  go_wp2_with fail
  refine AW.out.mono ?_
  rintro e w1 ⟨rfl, b1⟩
  have B1 := hid (B0.out.trans (b1.mono B0.out.size))
  have E1 := hid (HE.out.later b1)
  have R1 := hid (blk_seen b1 (Nat.le_refl _) R0.out)
  have hl1 : w.heap.size < w1.heap.size := (Array.getElem?_eq_some_iff.1 R1.out).1
  have NW := hid (new_any w1)
  clear AW b1 R0
  go_wp2_with fail
  refine NW.out.mono ?_
  rintro e w2 ⟨bb, ob, nb, rfl, h2, b2⟩
  have A2 : Hid (Bw w1 bb ob nb 1 [] [] w2) := ⟨h2, b2, fun x hx => by simp at hx⟩
  clear NW h2 b2
  go_wp2_with fail
  clear hu1 hr1 hu2 hr2 hsum1 hsum2 hk' hkk' hn' hnn'
  have EC : Hid (∀ W', Below w1.heap.size w1 W' → W'.cell? ⟨w.heap.size, 0, none⟩ = some (.int .i64 ei) ∧ W'.cell? ⟨w.heap.size, 1, none⟩ = some (.int .i64 eg)) := fun W' hb => by
    have r := blk_seen hb (Nat.le_refl _) R1.out
    exact ⟨cell_blk r rfl, cell_blk r rfl⟩
  go_loopg [10] n (fun gh i wr => ∃ j : Nat, j ≤ n ∧ gh = n - j ∧ i = .int .i64 ((j : Int) + 1) ∧ Hid (Bw w1 bb ob nb ((j : Int) + 1) (os j) [] wr))
  case atStart => exact ⟨0, Nat.zero_le _, rfl, rfl, A2.out⟩
  case round =>
    clear A2
    rename World => wr
    obtain ⟨j, hj, rfl, rfl, HA⟩ := hrel
    have hji : (j : Int) ≤ 60 := by omega
    have s1 : IntKind.i64.wrap ((j : Int) + 1 + 1) = (j : Int) + 1 + 1 := wrap_mid (by omega) (by omega)
    by_cases hlt : j < n
    · have hlti : (j : Int) + 1 ≤ (n : Int) := by omega
      have GV := hid (bw_give HA.out ((j : Int) + 1) 1 (I64_mid (by omega) (by omega)) (i64s 1) (num_os j) (by omega))
      rw [give_os] at GV
      clear hlt
      go_wp2_with fail
      refine GV.out.mono ?_
      rintro e w3 ⟨rfl, h3, -⟩
      have A3 := hid h3
      clear GV h3
      go_wp2_with fail
      go_roundg (n - (j + 1))
      case measure => omega
      case rel => exact ⟨j + 1, by omega, rfl, by show Value.int .i64 _ = Value.int .i64 _; congr 1, by have := A3.out; rw [show ((j : Int) + 1 + 1) = (((j + 1 : Nat) : Int) + 1) by omega] at this; exact this⟩
    · have hlti : ¬ (j : Int) + 1 ≤ (n : Int) := by omega
      obtain rfl : j = n := by omega
      obtain ⟨z0, z1⟩ := EC.out _ HA.out.bel
      by_cases hg1 : eg = 1
      · have hg1b : (eg == 1) = true := by simp [hg1]
        have BF := hid (B1.out.trans (HA.out.bel.mono B1.out.size))
        clear hj hlt s1
        go_wp2_with fail
        go_ret
        exact ⟨rfl, BF.out⟩
      · have hg1b : (eg == 1) = false := by simp [hg1]
        have hwho : who (os j) (k : Int) = some ((k : Int), 1) := (HA.out.bg.ok.who _ _).2 (os_mem.2 ⟨k - 1, by omega, by rw [show ((k - 1 : Nat) : Int) = (k : Int) - 1 by omega]; simp⟩)
        have DR := hid (bw_drop HA.out (k : Int) (k : Int) 1 (I64_mid (by omega) (by omega)) hwho)
        have hnum1 : num (del (k : Int) (os j)) (ei, eg) = none := num_none fun x hx e => by
          obtain ⟨i, hi, rfl⟩ := os_mem.1 (mem_del.1 hx).1
          simp at e
          exact hg1 e.2.symm
        have hwho1 : who (del (k : Int) (os j)) (k : Int) = none := by rw [HA.out.bg.ok.who_del, if_pos rfl]
        obtain ⟨L1, hL1⟩ : ∃ L1, L1 = ins ((k : Int), ei, eg) (del (k : Int) (os j)) := ⟨_, rfl⟩
        have HL1 := hid hL1
        have OKO := hid HA.out.bg.ok
        have HWO := hid hwho
        clear hj hlt s1
        go_wp2_with fail
        refine DR.out.mono ?_
        rintro e w5 ⟨rfl, h5, -⟩
        obtain ⟨w6, hw6⟩ : ∃ w6, w6 = w5.alloc (.cells #[.int .i64 (k : Int), .int .i64 1] 27) := ⟨_, rfl⟩
        have hA6 := h5.alloc #[.int .i64 (k : Int), .int .i64 1] 27
        rw [← hw6] at hA6
        have A6 := hid hA6
        have HW6 := hid hw6
        have PN := hid (bw_pin A6.out (k : Int) ei eg HI.out HG.out hk1 (by omega) hwho1 hnum1)
        rw [← hL1] at PN
        have OKD := hid A6.out.bg.ok
        have HW1 := hid hwho1
        have HN1 := hid hnum1
        obtain ⟨z0, z1⟩ := EC.out _ hA6.bel
        clear DR h5 hA6 hw6 hL1 hwho hwho1 hnum1
        go_upto_region 13 with fail
        rw [← HW6.out]
        go_wp2_with fail
        refine PN.out.mono ?_
        rintro e w7 ⟨rfl, h7, -⟩
        have A7 := hid h7
        have hw7 : who L1 (k : Int) = some (ei, eg) := by
          have := A7.out.bg.ok
          rw [HL1.out] at this ⊢
          rw [OKD.out.who_add this HW1.out, if_pos rfl]
        have hn7 : num L1 ((k : Int), 1) = none := by
          have := A7.out.bg.ok
          rw [HL1.out] at this ⊢
          rw [OKD.out.num_add this HN1.out, if_neg (by simp; intro _ q; exact hg1 q.symm), OKO.out.num_del HWO.out, if_pos rfl]
        have EN : Hid (Calls Tryd.prog 14 #[.pointer (some ⟨bb, 0, none⟩), .int .i64 (k : Int)] w7 fun e W' => e = .returned (.tuple #[.agg #[.int .i64 ei, .int .i64 eg], .bool true]) ∧ Below w7.heap.size w7 W') := by
          have := ent_any A7.out.bg (k : Int) (I64_mid (by omega) (by omega))
          rw [hw7] at this
          exact this
        have IDC : Hid (∀ W', Below w7.heap.size w7 W' → Calls Tryd.prog 15 #[.pointer (some ⟨bb, 0, none⟩), .agg #[.int .i64 (k : Int), .int .i64 1]] W' fun e w' => e = .returned (.tuple #[.int .i64 0, .bool false]) ∧ Below W'.heap.size W' w') := fun W' hb => by
          have := id_any (A7.out.later hb).bg (k : Int) 1 (I64_mid (by omega) (by omega)) (i64s 1)
          rw [hn7] at this
          exact this
        have HW7 := hid hw7
        have WA : Hid (∀ m : Nat, m < j → (m : Int) + 1 ≠ (k : Int) → who L1 ((m : Int) + 1) = some ((m : Int) + 1, 1)) := fun m hm hne => by
          have := A7.out.bg.ok
          rw [HL1.out] at this ⊢
          rw [OKD.out.who_add this HW1.out, if_neg hne, OKO.out.who_del, if_neg hne]
          exact (OKO.out.who _ _).2 (os_mem.2 ⟨m, hm, rfl⟩)
        clear PN h7 A6 HW6 hw7 hn7 z0 z1
        go_wp2_with fail
        refine EN.out.mono ?_
        rintro e w8 ⟨rfl, hb8⟩
        obtain ⟨w9, hw9⟩ : ∃ w9, w9 = w8.alloc (.cells #[.int .i64 ei, .int .i64 eg] 27) := ⟨_, rfl⟩
        have hA9 := (A7.out.later hb8).alloc #[.int .i64 ei, .int .i64 eg] 27
        rw [← hw9] at hA9
        have A9 := hid hA9
        have b9 : Below w8.heap.size w8 w9 := by rw [hw9]; exact bAl _ _
        have B9 := hid (hb8.trans (b9.mono hb8.size))
        have HW9 := hid hw9
        have ID9 := hid (IDC.out w9 B9.out)
        have r6 : w9.heap[w5.heap.size]? = some (.cells #[.int .i64 (k : Int), .int .i64 1] 27 (0, 0)) := hA9.at (List.mem_cons_of_mem _ (List.mem_cons_self ..))
        have x0 : w9.cell? ⟨w5.heap.size, 0, none⟩ = some (.int .i64 (k : Int)) := cell_blk r6 rfl
        have x1 : w9.cell? ⟨w5.heap.size, 1, none⟩ = some (.int .i64 1) := cell_blk r6 rfl
        clear EN hb8 hA9 hw9 b9 r6 IDC
        go_upto_region 15 with fail
        rw [← HW9.out]
        go_wp2_with fail
        refine ID9.out.mono ?_
        rintro e w10 ⟨rfl, hb10⟩
        have A10 := hid (A9.out.later hb10)
        clear ID9 hb10 x0 x1 HW9
        have KK : Hid (∀ W', Below w10.heap.size w10 W' → W'.cell? ⟨w8.heap.size, 0, none⟩ = some (.int .i64 ei) ∧ W'.cell? ⟨w8.heap.size, 1, none⟩ = some (.int .i64 eg) ∧ W'.cell? ⟨w.heap.size, 0, none⟩ = some (.int .i64 ei) ∧ W'.cell? ⟨w.heap.size, 1, none⟩ = some (.int .i64 eg) ∧ W'.cell? ⟨0, 0, none⟩ = some (.iface 111 (.pointer (some (Ad 9))))) := fun W' hb => by
          have A' := A10.out.later hb
          have r := A'.at (List.mem_cons_self ..)
          obtain ⟨z0, z1⟩ := EC.out _ A'.bel
          exact ⟨cell_blk r rfl, cell_blk r rfl, z0, z1, (A'.env E1.out).c9⟩
        have C9 : Hid (∀ W', Below w10.heap.size w10 W' → Calls Tryd.prog 9 #[.pointer (some ⟨bb, 0, none⟩), .int .i64 (k : Int), .agg #[.int .i64 77, .int .i64 2]] W' fun e w' => ∃ t q, e = .returned (.iface t q) ∧ (∀ W'', Below w'.heap.size w' W'' → Calls Tryd.prog 17 #[.iface t q, .iface 111 (.pointer (some (Ad 9)))] W'' fun e w' => e = .returned (.bool true) ∧ Below w10.heap.size w10 w') ∧ Below w10.heap.size w10 w') := fun W' hb => (pin_twice (A10.out.later hb) E1.out (k : Int) 77 2 (I64_mid (by omega) (by omega)) (i64s 77) (i64s 2) hk1 (by omega) HW7.out).mono fun _ _ ⟨t, q, q1, q2, q3⟩ => ⟨t, q, q1, fun W'' h2 => (q2 W'' h2).mono fun _ _ ⟨p1, p2⟩ => ⟨p1, ((hb.trans (q3.mono hb.size)).trans (h2.mono (hb.trans (q3.mono hb.size)).size)).trans (p2.mono ((hb.trans (q3.mono hb.size)).trans (h2.mono (hb.trans (q3.mono hb.size)).size)).size)⟩, hb.trans (q3.mono hb.size)⟩
        have NE := neq_ent ei eg HI.out HG.out
        go_upto_region 16 with fail
        go_region_held3 (fun W' => W'.cell? ⟨w8.heap.size, 0, none⟩ = some (.int .i64 ei) ∧ W'.cell? ⟨w8.heap.size, 1, none⟩ = some (.int .i64 eg) ∧ W'.cell? ⟨w.heap.size, 0, none⟩ = some (.int .i64 ei) ∧ W'.cell? ⟨w.heap.size, 1, none⟩ = some (.int .i64 eg) ∧ W'.cell? ⟨0, 0, none⟩ = some (.iface 111 (.pointer (some (Ad 9)))))
          (first | exact KK.out _ (by assumption) | exact KK.out _ (Below.refl _ _).drew | exact KK.out _ (Below.refl _ _))
          (first
            | (go_at_call 9; refine (C9.out _ (by first | assumption | exact (Below.refl _ _).drew | exact Below.refl _ _)).mono ?_; rintro e w11 ⟨t11, q11, rfl, hi11, hb11⟩)
            | (go_at_call 17; refine (hi11 _ (by first | exact Below.refl _ _ | exact (Below.refl _ _).drew)).mono ?_; rintro e w12 ⟨rfl, hb12⟩))
        have A12 := hid ((A10.out.later hb12).few (fr' := []) (fun x hx => by simp at hx))
        clear KK C9 NE A10 A9 hb11 hb12 hi11
        have hj60 : (j : Int) ≤ 60 := by omega
        go_wp2_with fail
        go_loopg [18, 19, 20] j (fun gh i _ _ wr => ∃ m : Nat, m ≤ j ∧ gh = j - m ∧ i = .int .i64 ((m : Int) + 1) ∧ Hid (Bw w1 bb ob nb ((j : Int) + 1) L1 [] wr))
        case atStart => exact ⟨0, Nat.zero_le _, rfl, rfl, A12.out⟩
        case round =>
          clear A12
          rename World => wk
          obtain ⟨m, hm, rfl, rfl, HB⟩ := hrel
          have hmi : (m : Int) ≤ 60 := by omega
          have s2 : IntKind.i64.wrap ((m : Int) + 1 + 1) = (m : Int) + 1 + 1 := wrap_mid (by omega) (by omega)
          by_cases hlt : m < j
          · have hlti2 : (m : Int) + 1 ≤ (j : Int) := by omega
            by_cases hmk : (m : Int) + 1 = (k : Int)
            · have EN : Hid (Calls Tryd.prog 14 #[.pointer (some ⟨bb, 0, none⟩), .int .i64 ((m : Int) + 1)] wk fun e W' => e = .returned (.tuple #[.agg #[.int .i64 ei, .int .i64 eg], .bool true]) ∧ Below wk.heap.size wk W') := by
                have := ent_any HB.out.bg ((m : Int) + 1) (I64_mid (by omega) (by omega))
                rw [hmk, HW7.out] at this
                rw [hmk]
                exact this
              have hmkb : ((m : Int) + 1 == (k : Int)) = true := by simp [hmk]
              have hmkc : ((m : Int) + 1 != (k : Int)) = false := by simp [hmk]
              clear hlt hmk
              go_wp2_with fail
              refine EN.out.mono ?_
              rintro e w13 ⟨rfl, hb13⟩
              obtain ⟨w14, hw14⟩ : ∃ w14, w14 = w13.alloc (.cells #[.int .i64 ei, .int .i64 eg] 27) := ⟨_, rfl⟩
              have hA14 := (HB.out.later hb13).alloc #[.int .i64 ei, .int .i64 eg] 27
              rw [← hw14] at hA14
              have A14 := hid (hA14.few (fr' := []) (fun x hx => by simp at hx))
              have HW14 := hid hw14
              clear EN hb13 hA14 hw14
              go_upto_region 22 with fail
              rw [← HW14.out]
              go_wp2_with fail
              go_roundg (j - (m + 1))
              case measure => omega
              case rel => exact ⟨m + 1, by omega, rfl, by show Value.int .i64 _ = Value.int .i64 _; congr 1, A14.out⟩
            · have EN : Hid (Calls Tryd.prog 14 #[.pointer (some ⟨bb, 0, none⟩), .int .i64 ((m : Int) + 1)] wk fun e W' => e = .returned (.tuple #[.agg #[.int .i64 ((m : Int) + 1), .int .i64 1], .bool true]) ∧ Below wk.heap.size wk W') := by
                have := ent_any HB.out.bg ((m : Int) + 1) (I64_mid (by omega) (by omega))
                rw [WA.out m hlt hmk] at this
                exact this
              have hmkb : ((m : Int) + 1 == (k : Int)) = false := by simp [hmk]
              have hmkc : ((m : Int) + 1 != (k : Int)) = true := by simp [hmk]
              have NE := neq_ent ((m : Int) + 1) 1 (I64_mid (by omega) (by omega)) (i64s 1)
              clear hlt hmk
              go_wp2_with fail
              refine EN.out.mono ?_
              rintro e w13 ⟨rfl, hb13⟩
              obtain ⟨w14, hw14⟩ : ∃ w14, w14 = w13.alloc (.cells #[.int .i64 ((m : Int) + 1), .int .i64 1] 27) := ⟨_, rfl⟩
              have hA14 := (HB.out.later hb13).alloc #[.int .i64 ((m : Int) + 1), .int .i64 1] 27
              rw [← hw14] at hA14
              have r14 := hA14.at (List.mem_cons_self ..)
              have x0 : w14.cell? ⟨w13.heap.size, 0, none⟩ = some (.int .i64 ((m : Int) + 1)) := cell_blk r14 rfl
              have x1 : w14.cell? ⟨w13.heap.size, 1, none⟩ = some (.int .i64 1) := cell_blk r14 rfl
              have A14 := hid (hA14.few (fr' := []) (fun x hx => by simp at hx))
              have HW14 := hid hw14
              clear EN hb13 hA14 hw14 r14
              go_upto_region 22 with fail
              rw [← HW14.out]
              go_wp2_with fail
              go_roundg (j - (m + 1))
              case measure => omega
              case rel => exact ⟨m + 1, by omega, rfl, by show Value.int .i64 _ = Value.int .i64 _; congr 1, A14.out⟩
          · have hlti2 : ¬ (m : Int) + 1 ≤ (j : Int) := by omega
            have hin : ∃ x ∈ L1, x.1 = (j : Int) := by
              by_cases hjk : (j : Int) = (k : Int)
              · exact ⟨_, (HB.out.bg.ok.who _ _).1 HW7.out, hjk.symm⟩
              · have := WA.out (j - 1) (by omega) (by omega)
                exact ⟨_, (HB.out.bg.ok.who _ _).1 this, by show ((j - 1 : Nat) : Int) + 1 = _; omega⟩
            have htb : turnB L1 (j : Int) = false := by
              obtain ⟨x, hx, hxj⟩ := hin
              unfold turnB
              rw [Bool.and_eq_false_iff]
              exact .inr (by rw [decide_eq_false_iff_not]; intro q; have := q x hx; omega)
            have TN := hid (turn_arg HB.out.bg (HB.out.env E1.out) (j : Int) htb)
            have BB := hid HB.out.bel
            clear hlt hin htb HB
            go_wp2_with fail
            refine TN.out.mono ?_
            rintro e w15 ⟨t1, q1, rfl, hv1, hb15⟩
            have V1 := hid hv1
            have b15 := hid (BB.out.trans (hb15.mono BB.out.size))
            have GN := hid (give_nil (E1.out.later b15.out) ei eg)
            obtain ⟨z0, z1⟩ := EC.out _ b15.out
            clear TN hv1 hb15 BB
            go_wp2_with fail
            refine GN.out.mono ?_
            rintro e w16 ⟨t2, q2, rfl, hv2, hb16⟩
            have V1b := hid (V1.out.later hb16)
            have V2 := hid hv2
            have b16 := hid (b15.out.trans (hb16.mono b15.out.size))
            have DN := hid (drop_nil (E1.out.later b16.out) 1)
            clear GN hv2 hb16 b15 V1 z0 z1
            go_wp2_with fail
            refine DN.out.mono ?_
            rintro e w17 ⟨t3, q3, rfl, hv3, hb17⟩
            obtain ⟨w18, hw18⟩ : ∃ w18, w18 = w17.alloc (.cells #[.int .i64 0, .int .i64 0] 27) := ⟨_, rfl⟩
            have hb18 : Below w17.heap.size w17 w18 := by rw [hw18]; exact bAl _ _
            have V1c := hid ((V1b.out.later hb17).later hb18)
            have V2c := hid ((V2.out.later hb17).later hb18)
            have V3 := hid (hv3.later hb18)
            have b17 := hid (b16.out.trans (hb17.mono b16.out.size))
            have b18 := hid (b17.out.trans (hb18.mono b17.out.size))
            have HW18 := hid hw18
            have TN := hid (turn_nil (E1.out.later b18.out) 1)
            clear DN hv3 hb17 b16 V1b V2 hb18 hw18 b17
            go_upto_region 28 with fail
            rw [← HW18.out]
            go_wp2_with fail
            refine TN.out.mono ?_
            rintro e w19 ⟨t4, q4, rfl, hv4, hb19⟩
            have V1d := hid (V1c.out.later hb19)
            have V2d := hid (V2c.out.later hb19)
            have V3d := hid (V3.out.later hb19)
            have V4 := hid hv4
            have b19 := hid (b18.out.trans (hb19.mono b18.out.size))
            have ENN := hid (ent_nil w19 1)
            clear TN hv4 hb19 V1c V2c V3 b18 HW18
            go_wp2_with fail
            refine ENN.out.mono ?_
            rintro e w20 ⟨rfl, hb20⟩
            obtain ⟨w21, hw21⟩ : ∃ w21, w21 = w20.alloc (.cells #[.int .i64 0, .int .i64 0] 27) := ⟨_, rfl⟩
            have hb21 : Below w20.heap.size w20 w21 := by rw [hw21]; exact bAl _ _
            have V1e := hid ((V1d.out.later hb20).later hb21)
            have V2e := hid ((V2d.out.later hb20).later hb21)
            have V3e := hid ((V3d.out.later hb20).later hb21)
            have V4e := hid ((V4.out.later hb20).later hb21)
            have b20 := hid (b19.out.trans (hb20.mono b19.out.size))
            have b21 := hid (b20.out.trans (hb21.mono b20.out.size))
            have HW21 := hid hw21
            clear ENN hb20 hb21 hw21 V1d V2d V3d V4 b19 b20
            have E21 := hid (E1.out.later b21.out)
            have BF := hid (B1.out.trans (b21.out.mono B1.out.size))
            have KK : Hid (∀ W', Below w21.heap.size w21 W' → W'.cell? ⟨w.heap.size, 0, none⟩ = some (.int .i64 ei) ∧ W'.cell? ⟨w.heap.size, 1, none⟩ = some (.int .i64 eg) ∧ W'.cell? ⟨1, 0, none⟩ = some (.iface 111 (.pointer (some (Ad 1)))) ∧ W'.cell? ⟨2, 0, none⟩ = some (.iface 111 (.pointer (some (Ad 2))))) := fun W' hb => by
              obtain ⟨z0, z1⟩ := EC.out _ (b21.out.trans (hb.mono b21.out.size))
              exact ⟨z0, z1, (E21.out.later hb).c1, (E21.out.later hb).c2⟩
            have CI : ∀ {v : Value} {p d : Nat}, p ∈ five → Err Ad w21 v p d → Hid (∀ W', Below w21.heap.size w21 W' → Calls Tryd.prog 17 #[v, .iface 111 (.pointer (some (Ad p)))] W' fun e w' => e = .returned (.bool true) ∧ Below w21.heap.size w21 w') := fun {v p d} hp hv W' hb => (is_err Ad (E21.out.later hb) (hv.later hb) (p := p) (k := p) hp hp).mono fun _ _ ⟨q1, q2⟩ => ⟨by rw [q1]; simp, hb.trans (q2.mono hb.size)⟩
            have C1 := CI (p := 1) (by decide) V1e.out
            have C2 := CI (p := 2) (by decide) V2e.out
            have C3 := CI (p := 2) (by decide) V3e.out
            have C4 := CI (p := 2) (by decide) V4e.out
            have C5 : Hid (∀ W', Below w21.heap.size w21 W' → Calls Tryd.prog 9 #[.pointer none, .int .i64 1, .agg #[.int .i64 ei, .int .i64 eg]] W' fun e w' => ∃ t q, e = .returned (.iface t q) ∧ Err Ad w' (.iface t q) 2 1 ∧ Below w21.heap.size w21 w') := fun W' hb => (pin_nil (E21.out.later hb) 1 ei eg).mono fun _ _ ⟨t, q, q1, q2, q3⟩ => ⟨t, q, q1, q2, hb.trans (q3.mono hb.size)⟩
            have C6 : Hid (∀ W' t q, Err Ad W' (.iface t q) 2 1 → Below w21.heap.size w21 W' → Calls Tryd.prog 17 #[.iface t q, .iface 111 (.pointer (some (Ad 2)))] W' fun e w' => e = .returned (.bool true) ∧ Below w21.heap.size w21 w') := fun W' t q hv hb => (is_err Ad (E21.out.later hb) hv (p := 2) (k := 2) (by decide) (by decide)).mono fun _ _ ⟨q1, q2⟩ => ⟨q1, hb.trans (q2.mono hb.size)⟩
            have C7 : Hid (∀ W', Below w21.heap.size w21 W' → Calls Tryd.prog 16 #[.pointer none] W' fun e w' => e = .returned (.int .i64 0) ∧ Below w21.heap.size w21 w') := fun W' hb => (next_nil W').mono fun _ _ ⟨q1, q2⟩ => ⟨q1, by rw [q2]; exact hb⟩
            have C8 : Hid (∀ W', Below w21.heap.size w21 W' → Calls Tryd.prog 13 #[.pointer none] W' fun e w' => e = .returned (.int .i64 0) ∧ Below w21.heap.size w21 w') := fun W' hb => (len_nil W').mono fun _ _ ⟨q1, q2⟩ => ⟨q1, by rw [q2]; exact hb⟩
            have C9 : Hid (∀ W', Below w21.heap.size w21 W' → Calls Tryd.prog 12 #[.pointer none] W' fun e w' => e = .returned (.slice none 0 0) ∧ Below w21.heap.size w21 w') := fun W' hb => (list_nil W').mono fun _ _ ⟨q1, q2⟩ => ⟨q1, by rw [q2]; exact hb⟩
            clear CI V1e V2e V3e V4e E21 b21 WA HW7
            go_upto_region 30 with fail
            rw [← HW21.out]
            go_region_held3 (fun W' => W'.cell? ⟨w.heap.size, 0, none⟩ = some (.int .i64 ei) ∧ W'.cell? ⟨w.heap.size, 1, none⟩ = some (.int .i64 eg) ∧ W'.cell? ⟨1, 0, none⟩ = some (.iface 111 (.pointer (some (Ad 1)))) ∧ W'.cell? ⟨2, 0, none⟩ = some (.iface 111 (.pointer (some (Ad 2)))))
              (first | exact KK.out _ (by assumption) | exact KK.out _ (Below.refl _ _).drew | exact KK.out _ (Below.refl _ _))
              (first
                | (go_at_call_of 17 (Value.iface t1 q1); refine (C1.out _ (by first | assumption | exact (Below.refl _ _).drew | exact Below.refl _ _)).mono ?_; rintro e w22 ⟨rfl, hb22⟩)
                | (go_at_call_of 17 (Value.iface t2 q2); refine (C2.out _ (by assumption)).mono ?_; rintro e w23 ⟨rfl, hb23⟩)
                | (go_at_call_of 17 (Value.iface t3 q3); refine (C3.out _ (by assumption)).mono ?_; rintro e w24 ⟨rfl, hb24⟩)
                | (go_at_call_of 17 (Value.iface t4 q4); refine (C4.out _ (by assumption)).mono ?_; rintro e w25 ⟨rfl, hb25⟩)
                | (go_at_call 9; refine (C5.out _ (by assumption)).mono ?_; rintro e w26 ⟨t5, q5, rfl, hv26, hb26⟩)
                | (go_at_call 17; refine (C6.out _ _ _ (by assumption) (by assumption)).mono ?_; rintro e w27 ⟨rfl, hb27⟩)
                | (go_at_call 16; refine (C7.out _ (by assumption)).mono ?_; rintro e w28 ⟨rfl, hb28⟩)
                | (go_at_call 13; refine (C8.out _ (by assumption)).mono ?_; rintro e w29 ⟨rfl, hb29⟩)
                | (go_at_call 12; refine (C9.out _ (by assumption)).mono ?_; rintro e w30 ⟨rfl, hb30⟩))
            all_goals
              have BL := hid (BF.out.trans (hb30.mono BF.out.size))
              clear KK C1 C2 C3 C4 C5 C6 C7 C8 C9
              go_wp2_with fail
              go_ret
              exact ⟨rfl, BL.out⟩
end Go.Proofs.YtagjmggiaffihabDoor.Bd
