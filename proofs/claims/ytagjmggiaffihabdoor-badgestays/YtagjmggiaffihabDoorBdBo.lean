/- BadgeBack: the walk. -/
import Derived.Test.YtagjmggiaffihabDoorBdBn
namespace Go.Proofs.YtagjmggiaffihabDoor.Bd
open Go.RowKit Go.Shelf Go.Maps
theorem u64_nat (m : Int) : ∃ q : Nat, IntKind.u64.wrap m = (q : Int) := by
  have h : 0 ≤ IntKind.u64.wrap m := by
    show 0 ≤ m % _
    exact Int.emod_nonneg _ (by decide)
  exact Int.eq_ofNat_of_zero_le h
theorem rem_at (m : Int) (n : Nat) (h0 : 0 < n) : ∃ (u : Int) (k : Nat), k < n ∧ IntKind.u64.wrap m = u ∧ u.tmod (n : Int) = (k : Int) := by
  obtain ⟨q, hq⟩ := u64_nat m
  exact ⟨_, q % n, Nat.mod_lt _ h0, hq, by rw [← Int.ofNat_tmod]⟩
theorem ins_last (p : Int × Int × Int) : ∀ (l : Prs), (∀ x ∈ l, x.1 < p.1) → ins p l = l ++ [p]
  | [], _ => rfl
  | y :: l, h => by
    have hy := h y (List.mem_cons_self ..)
    unfold ins
    rw [if_neg (by omega), ins_last p l fun x hx => h x (List.mem_cons_of_mem _ hx)]
    rfl
theorem num_none {l : Prs} {e : Int × Int} (h : ∀ x ∈ l, x.2 ≠ e) : num l e = none := by
  unfold num
  rw [List.find?_eq_none.2 fun x hx => by simpa using h x hx]
  rfl
/-- The first ones. -/
def fs (p : Nat) : Prs := (List.range p).map fun (j : Nat) => ((j : Int) + 1, (j : Int), (0 : Int))
/-- Those that come and go. -/
def gs (p : Nat) (t : Int) (k : Nat) : Prs := (List.range k).map fun (j : Nat) => ((p : Int) + (j : Int) + 1, 100 + (j : Int), t)
theorem fs_succ (p : Nat) : fs (p + 1) = fs p ++ [((p : Int) + 1, (p : Int), 0)] := by unfold fs; rw [List.range_succ, List.map_append]; rfl
theorem gs_succ (p : Nat) (t : Int) (k : Nat) : gs p t (k + 1) = gs p t k ++ [((p : Int) + (k : Int) + 1, 100 + (k : Int), t)] := by unfold gs; rw [List.range_succ, List.map_append]; rfl
theorem fs_mem {p : Nat} {x : Int × Int × Int} (h : x ∈ fs p) : ∃ j : Nat, j < p ∧ x = ((j : Int) + 1, (j : Int), 0) := by
  obtain ⟨j, hj, rfl⟩ := List.mem_map.1 h
  exact ⟨j, by simpa using hj, rfl⟩
theorem gs_mem {p k : Nat} {t : Int} {x : Int × Int × Int} (h : x ∈ gs p t k) : ∃ j : Nat, j < k ∧ x = ((p : Int) + (j : Int) + 1, 100 + (j : Int), t) := by
  obtain ⟨j, hj, rfl⟩ := List.mem_map.1 h
  exact ⟨j, by simpa using hj, rfl⟩
theorem fs_len (p : Nat) : (fs p).length = p := by simp [fs]
theorem give_fs (p : Nat) : ins ((p : Int) + 1, (p : Int), 0) (fs p) = fs (p + 1) := by
  rw [fs_succ]
  refine ins_last _ _ fun x hx => ?_
  obtain ⟨j, hj, rfl⟩ := fs_mem hx
  show (j : Int) + 1 < (p : Int) + 1
  omega
theorem num_fs (p : Nat) : num (fs p) ((p : Int), 0) = none := num_none fun x hx e => by
  obtain ⟨j, hj, rfl⟩ := fs_mem hx
  simp at e
  omega
theorem give_gs (p : Nat) (t : Int) (k : Nat) : ins ((p : Int) + (k : Int) + 1, 100 + (k : Int), t) (fs p ++ gs p t k) = fs p ++ gs p t (k + 1) := by
  rw [gs_succ, ← List.append_assoc]
  refine ins_last _ _ fun x hx => ?_
  rcases List.mem_append.1 hx with hx | hx
  · obtain ⟨j, hj, rfl⟩ := fs_mem hx
    show (j : Int) + 1 < (p : Int) + (k : Int) + 1
    omega
  · obtain ⟨j, hj, rfl⟩ := gs_mem hx
    show (p : Int) + (j : Int) + 1 < (p : Int) + (k : Int) + 1
    omega
theorem num_gs {p : Nat} (hp : p ≤ 61) (t : Int) (k : Nat) : num (fs p ++ gs p t k) (100 + (k : Int), t) = none := num_none fun x hx e => by
  rcases List.mem_append.1 hx with hx | hx
  · obtain ⟨j, hj, rfl⟩ := fs_mem hx
    simp at e
    omega
  · obtain ⟨j, hj, rfl⟩ := gs_mem hx
    simp at e
    omega
theorem del_gs (p : Nat) (t : Int) (k : Nat) : del ((p : Int) + (k : Int) + 1) (fs p ++ gs p t (k + 1)) = fs p ++ gs p t k := by
  unfold del
  rw [gs_succ, ← List.append_assoc, List.filter_append]
  have e1 : (fs p ++ gs p t k).filter (fun x => !(x.1 == (p : Int) + (k : Int) + 1)) = fs p ++ gs p t k := List.filter_eq_self.2 fun x hx => by
    rcases List.mem_append.1 hx with hx | hx
    · obtain ⟨j, hj, rfl⟩ := fs_mem hx
      simp
      omega
    · obtain ⟨j, hj, rfl⟩ := gs_mem hx
      simp
      omega
  rw [e1]
  simp
theorem turn_fs (p : Nat) (hp : p ≤ 61) : turnB (fs p) ((p : Int) + 1) = true := by
  unfold turnB
  rw [decide_eq_true (show (1 : Int) ≤ (p : Int) + 1 by omega), decide_eq_true (show (p : Int) + 1 ≤ 1073741825 by omega)]
  simp only [Bool.true_and]
  refine decide_eq_true fun x hx => ?_
  obtain ⟨j, hj, rfl⟩ := fs_mem hx
  show (j : Int) + 1 < (p : Int) + 1
  omega
set_option maxRecDepth 100000 in
theorem neq_ent (i g : Int) (hi : I64 i) (hg : I64 g) (w : World) : (binOp .neq 27 (.agg #[.int .i64 i, .int .i64 g]) (.agg #[.int .i64 i, .int .i64 g])).run Tryd.prog w = .ok (.bool false) w := by
  obtain ⟨r, hr, hiff⟩ := run_equal_deep (P := Tryd.prog) w (m := 2) (by omega) (k := 27) (by kernel_rfl) Tryd.wide24 (key_ent i g hi hg) (key_ent i g hi hg)
  have e : r = true := hiff.2 rfl
  unfold entV at hr
  subst e
  simp [binOp, hr]
set_option maxHeartbeats 12800000 in
set_option maxRecDepth 100000 in
theorem back_law (w : World) (Ad : Nat → Addr) (hE : Env5 w Ad) (first many : Int) :
    Calls Tryd.prog 4 #[.int .i64 first, .int .i64 many] w fun e w' => e = .returned (.bool true) ∧ Below w.heap.size w w' := by
  obtain ⟨u1, p, hp, hu1, hr1⟩ := rem_at first 61 (by decide)
  obtain ⟨u2, n, hn, hu2, hr2⟩ := rem_at many 61 (by decide)
  have hr1 : u1.tmod 61 = (p : Int) := hr1
  have hr2 : u2.tmod 61 = (n : Int) := hr2
  have hpi : (p : Int) ≤ 60 := by omega
  have hni : (n : Int) ≤ 60 := by omega
  have AW := hid (awake_any Ad w hE)
  clear hE
  go_enter Tryd.func4, Tryd.ntmps4
  go_wp2_with fail
  refine AW.out.mono ?_
  rintro e w1 ⟨rfl, b1⟩
  have B1 := hid b1
  have NW := hid (new_any w1)
  clear AW b1
  go_wp2_with fail
  refine NW.out.mono ?_
  rintro e w2 ⟨bb, ob, nb, rfl, h2, b2⟩
  have A2 : Hid (Bw w1 bb ob nb 1 [] [] w2) := ⟨h2, b2, fun x hx => by simp at hx⟩
  clear NW h2 b2
  go_wp2_with fail
  clear hu1 hr1 hu2 hr2
  go_loopg [8, 9, 10] p (fun gh i _ _ wr => ∃ k : Nat, k ≤ p ∧ gh = p - k ∧ i = .int .i64 (k : Int) ∧ Hid (Bw w1 bb ob nb ((k : Int) + 1) (fs k) [] wr))
  case atStart => exact ⟨0, Nat.zero_le _, rfl, rfl, A2.out⟩
  case round =>
    clear A2
    rename World => wr
    obtain ⟨k, hk, rfl, rfl, HA⟩ := hrel
    by_cases hlt : k < p
    · have hki : (k : Int) < (p : Int) := by omega
      have GV := hid (bw_give HA.out (k : Int) 0 (I64_mid (by omega) (by omega)) (i64s 0) (num_fs k) (by omega))
      rw [give_fs] at GV
      clear hlt
      go_wp2_with fail
      refine GV.out.mono ?_
      rintro e w3 ⟨rfl, h3, -⟩
      have A3 := hid h3
      clear GV h3
      go_wp2_with fail
      go_roundg (p - (k + 1))
      case measure => omega
      case rel => exact ⟨k + 1, by omega, rfl, by go_num, by have := A3.out; rw [show ((k : Int) + 1 + 1) = (((k + 1 : Nat) : Int) + 1) by omega] at this; exact this⟩
    · have hki : ¬ (k : Int) < (p : Int) := by omega
      obtain rfl : k = p := by omega
      clear hk hlt
      go_wp2_with fail
      go_loopg [11, 12, 13, 14, 15, 16, 17, 18, 19] 2 (fun gh t _ _ _ _ _ _ _ _ wr => ∃ q : Nat, q ≤ 2 ∧ gh = 2 - q ∧ t = .int .i64 (q : Int) ∧ Hid (Bw w1 bb ob nb ((k : Int) + 1) (fs k) [] wr))
      case atStart => exact ⟨0, Nat.zero_le _, rfl, rfl, HA.out⟩
      case round =>
        clear HA
        rename World => wt
        obtain ⟨q, hq, rfl, rfl, HT⟩ := hrel
        by_cases hq2 : q < 2
        · have hqi : (q : Int) < 2 := by omega
          go_wp2_with fail
          go_loopg [12, 13, 14] n (fun gh i _ _ wr => ∃ j : Nat, j ≤ n ∧ gh = n - j ∧ i = .int .i64 (j : Int) ∧ Hid (Bw w1 bb ob nb ((k : Int) + (j : Int) + 1) (fs k ++ gs k (q : Int) j) [] wr))
          case atStart => exact ⟨0, Nat.zero_le _, rfl, rfl, by have := HT.out; show Bw _ _ _ _ _ _ _ _; simpa [gs] using this⟩
          case round =>
            rename World => wi
            obtain ⟨j, hj, rfl, rfl, HI⟩ := hrel
            have hji : (j : Int) ≤ 60 := by omega
            have s1 : IntKind.i64.wrap (100 + (j : Int)) = 100 + (j : Int) := wrap_mid (by omega) (by omega)
            have s2 : IntKind.i64.wrap ((k : Int) + (j : Int)) = (k : Int) + (j : Int) := wrap_mid (by omega) (by omega)
            have s3 : IntKind.i64.wrap ((k : Int) + (j : Int) + 1) = (k : Int) + (j : Int) + 1 := wrap_mid (by omega) (by omega)
            by_cases hjn : j < n
            · have hjni : (j : Int) < (n : Int) := by omega
              have GV := hid (bw_give HI.out (100 + (j : Int)) (q : Int) (I64_mid (by omega) (by omega)) (I64_mid (by omega) (by omega)) (num_gs (by omega) _ j) (by omega))
              rw [give_gs] at GV
              clear hjn
              go_wp2_with fail
              refine GV.out.mono ?_
              rintro e w3 ⟨rfl, h3, -⟩
              have A3 := hid h3
              clear GV h3
              go_wp2_with fail
              go_roundg (n - (j + 1))
              case measure => omega
              case rel => exact ⟨j + 1, by omega, rfl, by go_num, by have := A3.out; rw [show ((k : Int) + (j : Int) + 1 + 1) = ((k : Int) + ((j + 1 : Nat) : Int) + 1) by omega] at this; exact this⟩
            · have hjni : ¬ (j : Int) < (n : Int) := by omega
              obtain rfl : j = n := by omega
              have s4 : IntKind.i64.wrap ((j : Int) - 1) = (j : Int) - 1 := wrap_mid (by omega) (by omega)
              clear hj hjn HT s1
              go_wp2_with fail
              go_loopg [15, 16, 17] (j + 1) (fun gh i _ _ wr => ∃ m : Nat, m ≤ j ∧ gh = m + 1 ∧ i = .int .i64 ((m : Int) - 1) ∧ Hid (Bw w1 bb ob nb ((k : Int) + (j : Int) + 1) (fs k ++ gs k (q : Int) m) [] wr))
              case atStart => exact ⟨j, Nat.le_refl _, rfl, rfl, HI.out⟩
              case round =>
                clear HI s4
                rename World => wd
                obtain ⟨m, hm, rfl, rfl, HD⟩ := hrel
                rcases m with _ | m
                · have c0 : ¬ ((((0 : Nat) : Int) - 1) ≥ 0) := by omega
                  have TN := hid (bw_turn (l := fs k) (by have := HD.out; simpa [gs] using this) ((k : Int) + 1) (turn_fs k (by omega)))
                  have s5 : IntKind.i64.wrap ((k : Int) + 1) = (k : Int) + 1 := wrap_mid (by omega) (by omega)
                  clear hm
                  go_wp2_with fail
                  refine TN.out.mono ?_
                  rintro e w5 ⟨rfl, h5, -⟩
                  have A5 := hid h5
                  have LN : Hid (Calls Tryd.prog 13 #[.pointer (some ⟨bb, 0, none⟩)] w5 fun e w' => e = .returned (.int .i64 (k : Int)) ∧ w' = w5) := by
                    have := len_any h5.bg
                    rw [fs_len] at this
                    exact this
                  have NX := hid (next_any h5.bg)
                  clear TN h5
                  go_wp2_with fail
                  refine LN.out.mono ?_
                  rintro e w' ⟨rfl, hw'⟩
                  obtain rfl := hw'.symm
                  go_wp2_with fail
                  refine NX.out.mono ?_
                  rintro e w' ⟨rfl, hw'⟩
                  obtain rfl := hw'.symm
                  clear LN NX
                  go_wp2_with fail
                  go_roundg (2 - (q + 1))
                  case measure => omega
                  case rel => exact ⟨q + 1, by omega, rfl, by go_num, A5.out⟩
                · have hmi : (m : Int) ≤ 60 := by omega
                  have e1 : (((m + 1 : Nat) : Int) - 1) = (m : Int) := by omega
                  rw [e1]
                  have c0 : (m : Int) ≥ 0 := by omega
                  have s1 : IntKind.i64.wrap (100 + (m : Int)) = 100 + (m : Int) := wrap_mid (by omega) (by omega)
                  have s5 : IntKind.i64.wrap ((k : Int) + (m : Int)) = (k : Int) + (m : Int) := wrap_mid (by omega) (by omega)
                  have s6 : IntKind.i64.wrap ((k : Int) + (m : Int) + 1) = (k : Int) + (m : Int) + 1 := wrap_mid (by omega) (by omega)
                  have s7 : IntKind.i64.wrap ((m : Int) - 1) = (m : Int) - 1 := wrap_mid (by omega) (by omega)
                  have hwho : who (fs k ++ gs k (q : Int) (m + 1)) ((k : Int) + (m : Int) + 1) = some (100 + (m : Int), (q : Int)) := (HD.out.bg.ok.who _ _).2 (by rw [gs_succ, ← List.append_assoc]; exact List.mem_append_right _ (List.mem_cons_self ..))
                  have DR := hid (bw_drop HD.out ((k : Int) + (m : Int) + 1) (100 + (m : Int)) (q : Int) (I64_mid (by omega) (by omega)) hwho)
                  rw [del_gs] at DR
                  clear hwho e1
                  go_wp2_with fail
                  refine DR.out.mono ?_
                  rintro e w5 ⟨rfl, h5, -⟩
                  obtain ⟨w6, hw6⟩ : ∃ w6, w6 = w5.alloc (.cells #[.int .i64 (100 + (m : Int)), .int .i64 (q : Int)] 27) := ⟨_, rfl⟩
                  have hA6 := h5.alloc #[.int .i64 (100 + (m : Int)), .int .i64 (q : Int)] 27
                  rw [← hw6] at hA6
                  have x0 : w6.cell? ⟨w5.heap.size, 0, none⟩ = some (.int .i64 (100 + (m : Int))) := cell_blk (hA6.at (List.mem_cons_self ..)) rfl
                  have x1 : w6.cell? ⟨w5.heap.size, 1, none⟩ = some (.int .i64 (q : Int)) := cell_blk (hA6.at (List.mem_cons_self ..)) rfl
                  have A6 := hid (hA6.few (fr' := []) fun x hx => by simp at hx)
                  have HW6 := hid hw6
                  have NE := neq_ent (100 + (m : Int)) (q : Int) (I64_mid (by omega) (by omega)) (I64_mid (by omega) (by omega))
                  clear DR h5 hA6 hw6
                  go_upto_region 25 with fail
                  rw [← HW6.out]
                  go_wp2_with fail
                  go_roundg (m + 1)
                  case measure => omega
                  case rel => exact ⟨m, by omega, rfl, by go_num, A6.out⟩
        · have hqi : ¬ (q : Int) < 2 := by omega
          have BF := hid (B1.out.trans (HT.out.bel.mono B1.out.size))
          clear hq hq2
          go_wp2_with fail
          go_ret
          exact ⟨rfl, BF.out⟩
end Go.Proofs.YtagjmggiaffihabDoor.Bd
