/- CodeChecks: the walk. -/
import Derived.Test.YtkhhiddemihnbaaDoorCwRh
namespace Go.Proofs.YtkhhiddemihnbaaDoor.Cw
open Go.RowKit Go.Shelf
set_option maxHeartbeats 8000000 in
set_option maxRecDepth 100000 in
theorem checks_law (W : World) (Ad : Nat → Addr) (va vb v : Value) (cs : List Cmp) (rs : List Rsc) (l : List Ins) (hO : OpsAt W) (hE : Env W Ad) (hC : CmpRow W va cs) (hQ : RscRow W vb rs) (hI : InsRow W v l) :
    Calls Tryd.prog 4 #[.agg #[va, vb], v] W fun e W' => e = .returned (.bool true) ∧ Below W.heap.size W W' := by
  have HO := hid hO
  have HE := hid hE
  have HC := hid hC
  have HQ := hid hQ
  have HI := hid hI
  obtain ⟨sa, sc, rfl, -, -⟩ := hC
  obtain ⟨ta, tc, rfl, -, -⟩ := hQ
  obtain ⟨la, lc, rfl, -, -⟩ := hI
  obtain ⟨x0, x1⟩ := cell_pair W (.slice sa cs.length sc) (.slice ta rs.length tc) 39
  have B0 : Hid (Below W.heap.size W (W.alloc (.cells #[.slice sa cs.length sc, .slice ta rs.length tc] 39))) := bAl _ _
  have X0 := hid x0
  have X1 := hid x1
  have AC := hid (awake_any _ Ad (hO.later B0.out) (hE.eight.later B0.out))
  clear hO hE x0 x1
  go_enter Tryd.func4, Tryd.ntmps4
  go_wp2_with fail
  refine AC.out.mono ?_
  rintro e w1 ⟨rfl, hb1⟩
  have B1 := hid (B0.out.trans (hb1.mono B0.out.size))
  have x0 := seen hb1 (Nat.le_refl _) X0.out
  have x1 := seen hb1 (Nat.le_refl _) X1.out
  clear hb1 AC X0 X1
  by_cases h1 : 40 < cs.length
  · have h1i : (40 : Int) < (cs.length : Int) := by omega
    clear h1
    go_wp2_with fail
    go_ret
    exact ⟨rfl, B1.out⟩
  have h1i : ¬ ((40 : Int) < (cs.length : Int)) := by omega
  by_cases h2 : 40 < rs.length
  · have h2i : (40 : Int) < (rs.length : Int) := by omega
    clear h1 h2
    go_wp2_with fail
    go_ret
    exact ⟨rfl, B1.out⟩
  have h2i : ¬ ((40 : Int) < (rs.length : Int)) := by omega
  by_cases h3 : 80 < l.length
  · have h3i : (80 : Int) < (l.length : Int) := by omega
    clear h1 h2 h3
    go_wp2_with fail
    go_ret
    exact ⟨rfl, B1.out⟩
  have h3i : ¬ ((80 : Int) < (l.length : Int)) := by omega
  have hcl : cs.length ≤ 1000 := by omega
  have hrl : rs.length ≤ 1000 := by omega
  have hll : l.length ≤ 80 := by omega
  have X0 := hid x0
  have X1 := hid x1
  have K1 := hid (check_any Ad w1 (.slice sa cs.length sc) (.slice ta rs.length tc) (.slice la l.length lc) cs rs l (HO.out.later B1.out) (HE.out.eight.later B1.out) (HC.out.later B1.out) (HQ.out.later B1.out) (HI.out.later B1.out) hcl hrl (by omega))
  clear h1 h2 h3
  go_wp2_with fail
  refine K1.out.mono ?_
  rintro e w3 ⟨v3, ls, rfl, hk3, t3, hb3⟩
  have B3 := hid (B1.out.trans (hb3.mono B1.out.size))
  have T3 := hid t3
  have K3 := hid hk3
  have HLL : Hid (ls.length ≤ 161) := by
    have := chk_len hk3
    show _ ≤ _
    omega
  have L1 := hid (leaves_any Ad v3 ls 3 w3 (HE.out.later B3.out) t3.tr (by omega) (chk_ok (by omega) hk3) (by have := HLL.out; omega))
  have x0 := seen hb3 (Nat.le_refl _) X0.out
  have x1 := seen hb3 (Nat.le_refl _) X1.out
  have X0 := hid x0
  have X1 := hid x1
  clear hb3 t3 K1 hk3
  go_wp2_with fail
  refine L1.out.mono ?_
  rintro e w4 ⟨lv, rfl, ho4, hb4⟩
  have B4 := hid (B3.out.trans (hb4.mono B3.out.size))
  have O4 := hid ho4
  have x0 := seen hb4 (Nat.le_refl _) X0.out
  have x1 := seen hb4 (Nat.le_refl _) X1.out
  have M1 := hid (rcheck_any w4 (.slice sa cs.length sc) (.slice ta rs.length tc) (.slice la l.length lc) cs rs l (HC.out.later B4.out) (HQ.out.later B4.out) (HI.out.later B4.out) hcl hrl (by omega))
  clear hb4 L1 X0 X1
  go_wp2_with fail
  refine M1.out.mono ?_
  rintro e w5 ⟨mv, ms, rfl, hk5, ho5, hb5⟩
  obtain rfl := chk_one K3.out hk5
  have B5 := hid (B4.out.trans (hb5.mono B4.out.size))
  have O4' := hid (Sc.own_more O4.out hb5)
  have O5 := hid ho5
  obtain ⟨xa, xc, rfl⟩ := own_slice ho4
  obtain ⟨ya, yc, rfl⟩ := own_slice ho5
  have hl200i : (ls.length : Int) ≤ 200 := by have := HLL.out; omega
  clear ho4 ho5 hb5 M1 O4 x0 x1 hk5 K3
  go_upto_region 8 with fail
  go_cut [50] from 38 to 50 (fun s50 wx => s50 = .bool false ∧ wx = w5)
  case first =>
    by_cases hnil : ls = []
    · have t3 := T3.out
      rw [hnil] at t3
      obtain rfl := top_nil t3
      have hz : ((ls.length : Int) == 0) = true := by rw [hnil]; rfl
      clear hnil t3 T3
      go_wp2_with fail
      go_meet
      exact ⟨rfl, rfl⟩
    · obtain ⟨t, q, rfl⟩ := top_iface T3.out hnil
      have hz : ((ls.length : Int) == 0) = false := by
        have : 0 < ls.length := List.length_pos_iff.2 hnil
        have : ¬ ((ls.length : Int) = 0) := by omega
        simpa using this
      clear hnil T3
      go_wp2_with fail
      go_meet
      exact ⟨rfl, rfl⟩
  case rest =>
    obtain ⟨rfl, hw⟩ := hcut
    rw [hw]
    clear hw T3
    go_wp2_with fail
    go_loopg [8] ls.length (fun gh s8 wx => ∃ k : Nat, k ≤ ls.length ∧ gh = ls.length - k ∧ s8 = .int .i64 (k : Int) ∧ Hid (Below w5.heap.size w5 wx))
    case atStart => exact ⟨0, Nat.zero_le _, rfl, rfl, Below.refl _ _⟩
    case round =>
      rename World => wq
      obtain ⟨k, hk, rfl, rfl, HB⟩ := hrel
      by_cases hlt : k < ls.length
      · have hki : (k : Int) < (ls.length : Int) := by omega
        obtain ⟨p, hp⟩ := at_lt ls k hlt
        obtain ⟨e1, e2⟩ := leafCells_at ls k p hp
        obtain ⟨g3, d3, f3, -, hg3⟩ := World.ownsRow.form O4'.out (by omega)
        obtain ⟨g5, d5, f5, -, hg5⟩ := World.ownsRow.form O5.out (by omega)
        have O3x := O4'.out
        have O5x := O5.out
        rw [f3] at O3x
        rw [f5] at O5x
        have c1 : wq.cell? ⟨g3, k * 2, none⟩ = some (.string (joinB p.1)) := (HB.out.cell (p := ⟨g3, k * 2, none⟩) hg3).trans ((O3x.cellAt (k * 2) (by omega)).trans e1)
        have c2 : wq.cell? ⟨g3, k * 2 + 1, none⟩ = some (.int .i64 (p.2 : Int)) := (HB.out.cell (p := ⟨g3, k * 2 + 1, none⟩) hg3).trans ((O3x.cellAt (k * 2 + 1) (by omega)).trans e2)
        have c3 : wq.cell? ⟨g5, k * 2, none⟩ = some (.string (joinB p.1)) := (HB.out.cell (p := ⟨g5, k * 2, none⟩) hg5).trans ((O5x.cellAt (k * 2) (by omega)).trans e1)
        have c4 : wq.cell? ⟨g5, k * 2 + 1, none⟩ = some (.int .i64 (p.2 : Int)) := (HB.out.cell (p := ⟨g5, k * 2 + 1, none⟩) hg5).trans ((O5x.cellAt (k * 2 + 1) (by omega)).trans e2)
        obtain ⟨rfl, rfl⟩ : xa = some ⟨g3, 0, none⟩ ∧ xc = d3 := by simpa using f3
        obtain ⟨rfl, rfl⟩ : ya = some ⟨g5, 0, none⟩ ∧ yc = d5 := by simpa using f5
        clear O3x O5x f3 f5 e1 e2 hp
        generalize joinB p.1 = y at *
        go_wp2_with fail
        go_quiet (fail)
        go_wp2_with fail
        go_roundg (ls.length - (k + 1))
        case measure => omega
        case rel => exact ⟨k + 1, by omega, rfl, by go_num, Bq HB.out _⟩
      · have hki : ¬ ((k : Int) < (ls.length : Int)) := by omega
        have B6 := hid (B5.out.trans (HB.out.mono B5.out.size))
        have D6 := hid (depths_any wq (HO.out.later B6.out) (.slice la l.length lc) l (HI.out.later B6.out) (by omega))
        clear O4' O5 HB B0 B1 B3 B4 B5
        go_wp2_with fail
        refine D6.out.mono ?_
        rintro e w7 ⟨r, b, rfl, hp7, hb⟩
        have B7 := hid (B6.out.trans (hb.mono B6.out.size))
        have P7 := hid hp7
        have D7 := hid (rdepths_any w7 (.slice la l.length lc) l (HI.out.later B7.out) (by omega))
        clear hb D6 hp7
        go_wp2_with fail
        refine D7.out.mono ?_
        rintro e w8 ⟨r2, b2, rfl, hp8, hb⟩
        have B8 := hid (B7.out.trans (hb.mono B7.out.size))
        obtain ⟨q, rfl, rfl, d, hd, hr, hr2⟩ := both_of (by omega) P7.out hb hp8
        have S8 := hid (same_any w8 r r2 d hr hr2 hd)
        have hqq : (q == q) = true := by simp
        clear hb D7 hp8 P7 hr hr2
        go_wp2_with fail
        refine S8.out.mono ?_
        rintro e w9 ⟨rfl, hb⟩
        have B9 := hid (B8.out.trans (hb.mono B8.out.size))
        clear hb S8
        go_wp2_with fail
        go_ret
        exact ⟨rfl, B9.out⟩
end Go.Proofs.YtkhhiddemihnbaaDoor.Cw
