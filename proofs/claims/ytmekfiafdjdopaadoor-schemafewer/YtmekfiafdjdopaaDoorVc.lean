/- SchemaFewer: the walk. -/
import Derived.Test.YtmekfiafdjdopaaDoorVb
import Derived.Deep.RegionHeld3
import Derived.Deep.DrawnRows
import Derived.Deep.Cut
namespace Go.Proofs.YtmekfiafdjdopaaDoor
open Go.RowKit Go.Shelf
attribute [local go_sem ↓] Go.wp_at_zero Go.wp_at_succ
theorem rem_any (m : Int) (N : Nat) : ∃ (u : Int) (n : Nat), n ≤ N ∧ IntKind.u64.wrap m = u ∧ u.tmod ((N : Int) + 1) = (n : Int) := by
  have h : 0 ≤ IntKind.u64.wrap m := by
    show 0 ≤ m % _
    exact Int.emod_nonneg _ (by decide)
  obtain ⟨n, hn⟩ := Int.eq_ofNat_of_zero_le h
  refine ⟨n, n % (N + 1), Nat.le_of_lt_succ (Nat.mod_lt _ (by omega)), hn, ?_⟩
  rw [show (N : Int) + 1 = ((N + 1 : Nat) : Int) from rfl, ← Int.ofNat_tmod]
theorem wrapU (k : Int) (h0 : 0 ≤ k) (h1 : k ≤ 1000000) : IntKind.u64.wrap k = k := by
  show k % _ = k
  exact Int.emod_eq_of_lt h0 (Int.lt_of_le_of_lt h1 (by decide))
theorem CmpRow.cut {W : World} {a : Option Addr} {c n : Nat} {cs : List Cmp} (h : CmpRow W (.slice a cs.length c) cs) (hn : n ≤ cs.length) : CmpRow W (.slice a n c) (cs.take n) := by
  obtain ⟨a1, c1, h1, h2, h3⟩ := h
  obtain ⟨rfl, rfl⟩ : a = a1 ∧ c = c1 := by simpa using h1
  refine ⟨a, c, by rw [List.length_take, Nat.min_eq_left hn], by rw [List.length_take]; omega, ?_⟩
  rcases h3 with h3 | ⟨b, o, h3, h4⟩
  · left; rw [h3]; simp
  · right
    refine ⟨b, o, h3, fun j x hx => h4 j x ?_⟩
    rw [List.getElem?_take] at hx
    split at hx
    · exact hx
    · simp at hx
theorem RscRow.cut {W : World} {a : Option Addr} {c n : Nat} {cs : List Rsc} (h : RscRow W (.slice a cs.length c) cs) (hn : n ≤ cs.length) : RscRow W (.slice a n c) (cs.take n) := by
  obtain ⟨a1, c1, h1, h2, h3⟩ := h
  obtain ⟨rfl, rfl⟩ : a = a1 ∧ c = c1 := by simpa using h1
  refine ⟨a, c, by rw [List.length_take, Nat.min_eq_left hn], by rw [List.length_take]; omega, ?_⟩
  rcases h3 with h3 | ⟨b, o, h3, h4⟩
  · left; rw [h3]; simp
  · right
    refine ⟨b, o, h3, fun j x hx => h4 j x ?_⟩
    rw [List.getElem?_take] at hx
    split at hx
    · exact hx
    · simp at hx
set_option maxHeartbeats 4000000 in
set_option maxRecDepth 100000 in
theorem fewer_law (Ad : Nat → Addr) (w : World) (va vb : Value) (cs : List Cmp) (rs : List Rsc) (o1 o2 : Int) (hE : Env w Ad) (hC : CmpRow w va cs) (hQ : RscRow w vb rs) :
    Calls Tryd.prog 7 #[.agg #[va, vb], .int .i64 o1, .int .i64 o2] w fun e w' => e = .returned (.bool true) ∧ Below w.heap.size w w' := by
  have HC := hid hC
  have HQ := hid hQ
  have HE := hid hE
  obtain ⟨a, c, rfl, hcap, -⟩ := hC
  obtain ⟨a', c', rfl, hcap', -⟩ := hQ
  obtain ⟨x0, x1⟩ := cell_new2 w (.slice a cs.length c) (.slice a' rs.length c') 25
  have B0 : Hid (Below w.heap.size w (w.alloc (.cells #[.slice a cs.length c, .slice a' rs.length c'] 25))) := (Below.refl _ _).alloc (Nat.le_refl _) _
  have X0 := hid x0
  have X1 := hid x1
  have AC := hid (awake_any _ Ad (hE.later B0.out))
  clear hE x0 x1
  go_enter Tryd.func7, Tryd.ntmps7
  go_wp2_with fail
  refine AC.out.mono ?_
  rintro e w1 ⟨rfl, hb1⟩
  have B1 := hid (B0.out.trans (hb1.mono B0.out.size))
  have x0 := Below.seen hb1 (Nat.le_refl _) X0.out
  have x1 := Below.seen hb1 (Nat.le_refl _) X1.out
  have GC := hid (great_any w1 _ _ cs rs (HC.out.later B1.out) (HQ.out.later B1.out))
  clear hb1 AC X0 X1
  go_wp2_with fail
  refine GC.out.mono ?_
  rintro e w2 ⟨⟨g, rfl, hsm⟩, hb2⟩
  have B2 := hid (B1.out.trans (hb2.mono B1.out.size))
  have x0 := Below.seen hb2 (Nat.le_refl _) x0
  have x1 := Below.seen hb2 (Nat.le_refl _) x1
  cases g with
  | true =>
    clear hsm
    go_wp2_with fail
    go_ret
    exact ⟨rfl, B2.out⟩
  | false =>
    have HS := hid (hsm rfl)
    have h40 : cs.length ≤ 40 := HS.out.1.1
    have h40' : rs.length ≤ 40 := HS.out.2.1
    have h40i : (cs.length : Int) ≤ 40 := by omega
    have h40i' : (rs.length : Int) ≤ 40 := by omega
    obtain ⟨u1, n1, hn1, hu1, ht1⟩ := rem_any o1 cs.length
    obtain ⟨u2, n2, hn2, hu2, ht2⟩ := rem_any o2 rs.length
    have hl2 : w.heap.size < w2.heap.size := World.block_lt_of_cell? w2 _ x0
    have hne : ¬ (w.heap.size = w2.heap.size) := by omega
    have hcapi : (n1 : Int) ≤ (c : Int) := by omega
    have hcapi' : (n2 : Int) ≤ (c' : Int) := by omega
    have h01 : (0 : Int) ≤ (n1 : Int) := by omega
    have h02 : (0 : Int) ≤ (n2 : Int) := by omega
    have hw1 : IntKind.u64.wrap ((cs.length : Int) + 1) = (cs.length : Int) + 1 := wrapU _ (by omega) (by omega)
    have hw2 : IntKind.u64.wrap ((rs.length : Int) + 1) = (rs.length : Int) + 1 := wrapU _ (by omega) (by omega)
    have hi1 : IntKind.i64.wrap (n1 : Int) = (n1 : Int) := IntWalk.i64_in _ (by omega)
    have hi2 : IntKind.i64.wrap (n2 : Int) = (n2 : Int) := IntWalk.i64_in _ (by omega)
    have hs1 : IntKind.i64.wrap ((cs.length : Int) + 1) = (cs.length : Int) + 1 := IntWalk.i64_in _ (by omega)
    have hs2 : IntKind.i64.wrap ((rs.length : Int) + 1) = (rs.length : Int) + 1 := IntWalk.i64_in _ (by omega)
    have hz1 : ¬ ((cs.length : Int) + 1 = 0) := by omega
    have hz2 : ¬ ((rs.length : Int) + 1 = 0) := by omega
    have hq1 : ((cs.length : Int) + 1 == 0) = false := by simpa using hz1
    have hq2 : ((rs.length : Int) + 1 == 0) = false := by simpa using hz2
    clear hsm GC hb2 hcap hcap'
    have nw := World.new_ne w2 _ x0
    have nw1 := World.new_ne w2 _ x1
    go_wp2_with fail
    go_region_held3 (fun W => W.cell? ⟨w.heap.size, 0, none⟩ = some (.slice a cs.length c) ∧ W.cell? ⟨w.heap.size, 1, none⟩ = some (.slice a' rs.length c')) (go_keep) (fail)
    go_wp2_with fail
    go_region_held3 (fun W => W.cell? ⟨w.heap.size, 0, none⟩ = some (.slice a cs.length c) ∧ W.cell? ⟨w.heap.size, 1, none⟩ = some (.slice a' rs.length c')) (go_keep) (fail)
    obtain ⟨Wz, hWz⟩ : ∃ Wz, Wz = (w2.alloc (.cells #[.slice a n1 c, .slice a' n2 c'] 25)).drew.drew := ⟨_, rfl⟩
    have BZ2 : Hid (Below w2.heap.size w2 Wz) := by rw [hWz]; exact ((Below.refl _ _).alloc (Nat.le_refl _) _).drew.drew
    have BZ := hid (B2.out.trans (BZ2.out.mono B2.out.size))
    obtain ⟨z0, z1⟩ := cell_new2 w2 (.slice a n1 c) (.slice a' n2 c') 25
    have z0 : Wz.cell? ⟨w2.heap.size, 0, none⟩ = some (.slice a n1 c) := by rw [hWz]; exact z0
    have z1 : Wz.cell? ⟨w2.heap.size, 1, none⟩ = some (.slice a' n2 c') := by rw [hWz]; exact z1
    have y0 := Below.seen BZ2.out (Nat.le_refl _) x0
    have y1 := Below.seen BZ2.out (Nat.le_refl _) x1
    have K1 := hid (check_any Ad Wz _ _ cs rs (HE.out.later BZ.out) (HC.out.later BZ.out) (HQ.out.later BZ.out) HS.out.1 HS.out.2)
    have Z0 := hid z0
    have Z1 := hid z1
    have N1 := hid hn1
    have N2 := hid hn2
    rw [← hWz]
    clear hWz nw nw1 hu1 hu2 ht1 ht2 hw1 hw2 hi1 hi2 hs1 hs2 hz1 hz2 hq1 hq2 hl2 hne x0 x1 z0 z1
    go_wp2_with fail
    refine K1.out.mono ?_
    rintro e w4 ⟨v4, rfl, t4, hb4⟩
    have B4 := hid (BZ.out.trans (hb4.mono BZ.out.size))
    have B24 := hid hb4
    clear hb4 K1 y0 y1
    by_cases hnil : checkL cs rs = []
    · rw [hnil] at t4
      obtain rfl := top_nil t4
      have z0 := Below.seen B24.out (Nat.le_refl _) Z0.out
      have z1 := Below.seen B24.out (Nat.le_refl _) Z1.out
      have K2 := hid (check_any Ad w4 _ _ (cs.take n1) (rs.take n2) (HE.out.later B4.out) ((HC.out.later B4.out).cut N1.out) ((HQ.out.later B4.out).cut N2.out) ⟨by rw [List.length_take]; omega, fun c hc => HS.out.1.2 c (List.mem_of_mem_take hc)⟩ ⟨by rw [List.length_take]; omega, fun c hc => HS.out.2.2 c (List.mem_of_mem_take hc)⟩)
      rw [fewer cs rs n1 n2 N1.out N2.out hnil] at K2
      clear t4 hnil
      go_wp2_with fail
      refine K2.out.mono ?_
      rintro e w5 ⟨v5, rfl, t5, hb5⟩
      obtain rfl := top_nil t5
      have B5 := hid (B4.out.trans (hb5.mono B4.out.size))
      clear t5 hb5 K2
      go_wp2_with fail
      go_ret
      exact ⟨rfl, B5.out⟩
    · obtain ⟨t, q, rfl⟩ := top_some t4 hnil
      clear t4 hnil
      go_wp2_with fail
      go_ret
      exact ⟨rfl, B4.out⟩
end Go.Proofs.YtmekfiafdjdopaaDoor
