/- SchemaNames: the walk. -/
import Derived.Test.YtmekfiafdjdopaaDoorYb
import Derived.Test.YtmekfiafdjdopaaDoorVb
import Derived.Deep.RegionHeld3
import Derived.Deep.DrawnRows
import Derived.Deep.Cut
namespace Go.Proofs.YtmekfiafdjdopaaDoor
open Go.RowKit Go.Shelf
attribute [local go_sem ↓] Go.wp_at_zero Go.wp_at_succ
/-- What is kept while a name is looked up. -/
structure N2 (w : World) (g : Nat) (va vb : Value) (p : Addr) (s : ByteArray) (W : World) : Prop where
  bel : Below w.heap.size w W
  x0 : W.cell? ⟨g, 0, none⟩ = some va
  x1 : W.cell? ⟨g, 1, none⟩ = some vb
  c0 : W.cell? p = some (.string s)
theorem N2.later {w W W' : World} {g : Nat} {va vb : Value} {p : Addr} {s : ByteArray} (h : N2 w g va vb p s W) (hb : Below W.heap.size W W') : N2 w g va vb p s W' :=
  ⟨h.bel.trans (hb.mono h.bel.size), Below.seen hb (Nat.le_refl _) h.x0, Below.seen hb (Nat.le_refl _) h.x1, Below.seen hb (Nat.le_refl _) h.c0⟩
theorem N2.drew {w W : World} {g : Nat} {va vb : Value} {p : Addr} {s : ByteArray} (h : N2 w g va vb p s W) : N2 w g va vb p s W.drew :=
  ⟨h.bel.drew, h.x0, h.x1, h.c0⟩
theorem N2.cells {w W : World} {g : Nat} {va vb : Value} {p : Addr} {s : ByteArray} (h : N2 w g va vb p s W) : W.cell? ⟨g, 0, none⟩ = some va ∧ W.cell? ⟨g, 1, none⟩ = some vb ∧ W.cell? p = some (.string s) :=
  ⟨h.x0, h.x1, h.c0⟩
structure N1 (w : World) (g : Nat) (va : Value) (W : World) : Prop where
  bel : Below w.heap.size w W
  x0 : W.cell? ⟨g, 0, none⟩ = some va
theorem N1.drew {w W : World} {g : Nat} {va : Value} (h : N1 w g va W) : N1 w g va W.drew := ⟨h.bel.drew, h.x0⟩
theorem count_n1 {w : World} {g : Nat} {va : Value} (m : Nat) (hm : m < 4294967296) (W : World) (h : N1 w g va W) :
    Calls Tryd.prog 26 #[.int .u32 (m : Int)] W fun e W' => e = .returned (.int .i64 (ones 32 m : Int)) ∧ N1 w g va W' := by
  refine (count_any m hm W).mono ?_
  rintro e W' ⟨rfl, hb⟩
  exact ⟨rfl, h.bel.trans (hb.mono h.bel.size), Below.seen hb (Nat.le_refl _) h.x0⟩
theorem find_n2 {w : World} {g : Nat} {va vb : Value} {p : Addr} {s : ByteArray} {cs : List Cmp} (hC : CmpRow w va cs) (hvb : ∃ a l c, vb = .slice a l c) (hl : cs.length ≤ 1000) {k : Nat} (hk : firstI s (cs.map Cmp.s) 0 = (k : Int)) (W : World) (h : N2 w g va vb p s W) :
    Calls Tryd.prog 13 #[.agg #[va, vb], .string s] W fun e W' => e = .returned (.tuple #[.int .i64 (k : Int), .bool true]) ∧ N2 w g va vb p s W' := by
  refine (find_any W va vb hvb cs (hC.later h.bel) hl s).mono ?_
  rintro e W' ⟨rfl, hb⟩
  refine ⟨?_, h.later hb⟩
  rw [hk]; unfold foundV; rw [if_neg (by omega)]
theorem res_n2 {w : World} {g : Nat} {va vb : Value} {p : Addr} {s : ByteArray} {rs : List Rsc} (hC : RscRow w vb rs) (hva : ∃ a l c, va = .slice a l c) (hl : rs.length ≤ 1000) {k : Nat} (hk : firstI s (rs.map Rsc.s) 0 = (k : Int)) (W : World) (h : N2 w g va vb p s W) :
    Calls Tryd.prog 15 #[.agg #[va, vb], .string s] W fun e W' => e = .returned (.tuple #[.int .i64 (k : Int), .bool true]) ∧ N2 w g va vb p s W' := by
  refine (resource_any W va vb hva rs (hC.later h.bel) hl s).mono ?_
  rintro e W' ⟨rfl, hb⟩
  refine ⟨?_, h.later hb⟩
  rw [hk]; unfold foundV; rw [if_neg (by omega)]
theorem nores_n2 {w : World} {g : Nat} {va vb : Value} {p : Addr} {s : ByteArray} {rs : List Rsc} (hC : RscRow w vb rs) (hva : ∃ a l c, va = .slice a l c) (hl : rs.length ≤ 1000) (hk : firstI s (rs.map Rsc.s) 0 = -1) (W : World) (h : N2 w g va vb p s W) :
    Calls Tryd.prog 15 #[.agg #[va, vb], .string s] W fun e W' => e = .returned (.tuple #[.int .i64 0, .bool false]) ∧ N2 w g va vb p s W' := by
  refine (resource_any W va vb hva rs (hC.later h.bel) hl s).mono ?_
  rintro e W' ⟨rfl, hb⟩
  refine ⟨?_, h.later hb⟩
  rw [hk]; rfl
set_option maxHeartbeats 4000000 in
set_option maxRecDepth 100000 in
theorem names_law (Ad : Nat → Addr) (w : World) (va vb : Value) (cs : List Cmp) (rs : List Rsc) (hE : Env w Ad) (hC : CmpRow w va cs) (hQ : RscRow w vb rs) :
    Calls Tryd.prog 6 #[.agg #[va, vb]] w fun e w' => e = .returned (.bool true) ∧ Below w.heap.size w w' := by
  have HC := hid hC
  have HQ := hid hQ
  have HE := hid hE
  obtain ⟨a, c, rfl, hcap, hlay⟩ := hC
  obtain ⟨a', c', rfl, hcap', hlay'⟩ := hQ
  have HL := hid hlay
  have HL' := hid hlay'
  obtain ⟨x0, x1⟩ := cell_new2 w (.slice a cs.length c) (.slice a' rs.length c') 25
  have B0 : Hid (Below w.heap.size w (w.alloc (.cells #[.slice a cs.length c, .slice a' rs.length c'] 25))) := (Below.refl _ _).alloc (Nat.le_refl _) _
  have X0 := hid x0
  have X1 := hid x1
  have AC := hid (awake_any _ Ad (hE.later B0.out))
  clear hE x0 x1 hlay hlay'
  go_enter Tryd.func6, Tryd.ntmps6
  go_wp2_with fail
  refine AC.out.mono ?_
  rintro e w1 ⟨rfl, hb1⟩
  have B1 := hid (B0.out.trans (hb1.mono B0.out.size))
  have x0 := Below.seen hb1 (Nat.le_refl _) X0.out
  have x1 := Below.seen hb1 (Nat.le_refl _) X1.out
  have GC := hid (great_any w1 _ _ cs rs (HC.out.later B1.out) (HQ.out.later B1.out))
  clear hb1 AC X0 X1
  go_wp2_with fail
  refine GC.out.mono ?_
  rintro e w2 ⟨⟨g, rfl, hsm⟩, hb2⟩
  have B2 := hid (B1.out.trans (hb2.mono B1.out.size))
  have x0 := Below.seen hb2 (Nat.le_refl _) x0
  have x1 := Below.seen hb2 (Nat.le_refl _) x1
  cases g with
  | true =>
    clear hsm
    go_wp2_with fail
    go_ret
    exact ⟨rfl, B2.out⟩
  | false =>
    have HS := hid (hsm rfl)
    have h40 : cs.length ≤ 40 := HS.out.1.1
    have h40' : rs.length ≤ 40 := HS.out.2.1
    have K1 := hid (check_any Ad w2 _ _ cs rs (HE.out.later B2.out) (HC.out.later B2.out) (HQ.out.later B2.out) HS.out.1 HS.out.2)
    have X0 := hid x0
    have X1 := hid x1
    clear hsm GC hb2
    go_wp2_with fail
    refine K1.out.mono ?_
    rintro e w4 ⟨v4, rfl, t4, hb4⟩
    have B4 := hid (B2.out.trans (hb4.mono B2.out.size))
    have B24 := hid hb4
    have x0 := Below.seen hb4 (Nat.le_refl _) X0.out
    have x1 := Below.seen hb4 (Nat.le_refl _) X1.out
    clear hb4 K1 X0 X1
    by_cases hnil : checkL cs rs = []
    · rw [hnil] at t4
      obtain rfl := top_nil t4
      have hG := good_of cs rs hnil
      have hn1 : ¬ ((16 : Int) < (cs.length : Int)) := by have := hG.nc; omega
      have hn2 : ¬ ((8 : Int) < (rs.length : Int)) := by have := hG.nr; omega
      have HG := hid hG
      have hli : (cs.length : Int) ≤ 40 := by omega
      have hli' : (rs.length : Int) ≤ 40 := by omega
      have X4 := hid (show _ ∧ _ ∧ _ from ⟨B4.out, x0, x1⟩)
      clear t4 hnil hG
      go_wp2_with fail
      go_loopw [3] (fun i wr => ∃ k : Nat, k ≤ cs.length ∧ i = .int .i64 (k : Int) ∧ Hid (Below w.heap.size w wr ∧ wr.cell? ⟨w.heap.size, 0, none⟩ = some (.slice a cs.length c) ∧ wr.cell? ⟨w.heap.size, 1, none⟩ = some (.slice a' rs.length c'))) (fun i _ => cs.length - (intOf i).toNat)
      case atStart => exact ⟨0, Nat.zero_le _, rfl, X4.out⟩
      case round =>
        obtain ⟨k, hk, rfl, HB⟩ := hrel
        clear x0 x1
        obtain ⟨b5, x0, x1⟩ := HB.out
        have B5 := hid b5
        clear b5
        by_cases hlt : k < cs.length
        · have hki : (k : Int) < (cs.length : Int) := by omega
          obtain ⟨x, hx⟩ := at_lt cs k hlt
          obtain ⟨b, o, rfl, hc⟩ : ∃ b o, a = some ⟨b, o, none⟩ ∧ ∀ (j : Nat) (x : Cmp), cs[j]? = some x → w.cell? ⟨b, o + j * 7, none⟩ = some (.string x.s) := by
            rcases HL.out with h | ⟨b, o, h1, h2⟩
            · rw [h] at hx; simp at hx
            · exact ⟨b, o, h1, fun j x hx => (h2 j x hx).1⟩
          have c0 := Below.seen B5.out (Nat.le_refl _) (hc k x hx)
          have hN : N2 w w.heap.size (.slice (some ⟨b, o, none⟩) cs.length c) (.slice a' rs.length c') ⟨b, o + k * 7, none⟩ x.s wr := ⟨B5.out, x0, x1, c0⟩
          have hNd := hN.drew
          have hgx := HG.out.comp k x hx
          have FA := hid (find_n2 (g := w.heap.size) (p := ⟨b, o + k * 7, none⟩) HC.out ⟨a', rs.length, c', rfl⟩ (by omega) hgx.2.1)
          have FB := hid (nores_n2 (g := w.heap.size) (p := ⟨b, o + k * 7, none⟩) HQ.out ⟨some ⟨b, o, none⟩, cs.length, c, rfl⟩ (by omega) hgx.2.2)
          have hxs : x.s.size ≤ 100 := HS.out.1.2 x (List.mem_of_getElem? hx)
          have FI := hid (fun W => isname_any x.s W (by omega))
          rw [hgx.1] at FI
          clear hc hx hgx
          go_wp2_with fail
          go_region_held3 (fun W => W.cell? ⟨w.heap.size, 0, none⟩ = some (.slice (some ⟨b, o, none⟩) cs.length c) ∧ W.cell? ⟨w.heap.size, 1, none⟩ = some (.slice a' rs.length c') ∧ W.cell? ⟨b, o + k * 7, none⟩ = some (.string x.s)) (first | go_keep | (exact N2.cells (by assumption))) (first
            | (go_at_call 13; refine (FA.out _ (by assumption)).mono ?_; rintro e w5 ⟨rfl, n5⟩))
          clear hN hNd x0 x1 c0
          obtain ⟨x0, x1, c0⟩ := n5.cells
          have n5d := n5.drew
          go_wp2_with fail
          go_region_held3 (fun W => W.cell? ⟨w.heap.size, 0, none⟩ = some (.slice (some ⟨b, o, none⟩) cs.length c) ∧ W.cell? ⟨w.heap.size, 1, none⟩ = some (.slice a' rs.length c') ∧ W.cell? ⟨b, o + k * 7, none⟩ = some (.string x.s)) (first | go_keep | (exact N2.cells (by assumption))) (first
            | (go_at_call 15; refine (FB.out _ (by assumption)).mono ?_; rintro e w6 ⟨rfl, n6⟩))
          clear x0 x1 c0 n5d
          obtain ⟨x0, x1, c0⟩ := n6.cells
          go_wp2_with fail
          refine (FI.out _).mono ?_
          rintro e w7 ⟨rfl, b7⟩
          have n7 := hid (n6.later b7)
          clear b7 FI FA FB
          go_wp2_with fail
          go_roundw
          case rel => exact ⟨k + 1, by omega, by go_num, n7.out.bel, n7.out.x0, n7.out.x1⟩
          case measure => simp [intOf]; omega
        · have hki : ¬ ((k : Int) < (cs.length : Int)) := by omega
          clear hki
          rename World => wo
          have X5 := hid (show _ ∧ _ ∧ _ from ⟨B5.out, x0, x1⟩)
          have hki : ¬ ((k : Int) < (cs.length : Int)) := by omega
          go_wp2_with fail
          go_loopw [8] (fun i wr => ∃ k : Nat, k ≤ rs.length ∧ i = .int .i64 (k : Int) ∧ Hid (Below w.heap.size w wr ∧ wr.cell? ⟨w.heap.size, 0, none⟩ = some (.slice a cs.length c) ∧ wr.cell? ⟨w.heap.size, 1, none⟩ = some (.slice a' rs.length c'))) (fun i _ => rs.length - (intOf i).toNat)
          case atStart => exact ⟨0, Nat.zero_le _, rfl, X5.out⟩
          case round =>
            clear hki hlt hk HB B5
            obtain ⟨k, hk, rfl, HB⟩ := hrel
            clear x0 x1
            obtain ⟨b5, x0, x1⟩ := HB.out
            have B5 := hid b5
            clear b5
            by_cases hlt : k < rs.length
            · have hki : (k : Int) < (rs.length : Int) := by omega
              obtain ⟨x, hx⟩ := at_lt rs k hlt
              obtain ⟨b, o, rfl, hc⟩ : ∃ b o, a' = some ⟨b, o, none⟩ ∧ ∀ (j : Nat) (x : Rsc), rs[j]? = some x → w.cell? ⟨b, o + j * 2, none⟩ = some (.string x.s) := by
                rcases HL'.out with h | ⟨b, o, h1, h2⟩
                · rw [h] at hx; simp at hx
                · exact ⟨b, o, h1, fun j x hx => (h2 j x hx).1⟩
              have c0 := Below.seen B5.out (Nat.le_refl _) (hc k x hx)
              have hN : N2 w w.heap.size (.slice a cs.length c) (.slice (some ⟨b, o, none⟩) rs.length c') ⟨b, o + k * 2, none⟩ x.s wr := ⟨B5.out, x0, x1, c0⟩
              have hNd := hN.drew
              have FA := hid (res_n2 (g := w.heap.size) (p := ⟨b, o + k * 2, none⟩) HQ.out ⟨a, cs.length, c, rfl⟩ (by omega) (HG.out.res k x hx))
              clear hc hx
              go_wp2_with fail
              go_region_held3 (fun W => W.cell? ⟨w.heap.size, 0, none⟩ = some (.slice a cs.length c) ∧ W.cell? ⟨w.heap.size, 1, none⟩ = some (.slice (some ⟨b, o, none⟩) rs.length c') ∧ W.cell? ⟨b, o + k * 2, none⟩ = some (.string x.s)) (first | go_keep | (exact N2.cells (by assumption))) (first
                | (go_at_call 15; refine (FA.out _ (by assumption)).mono ?_; rintro e w6 ⟨rfl, n6⟩))
              have n7 := hid n6
              clear x0 x1 c0 hN hNd n6 FA
              go_wp2_with fail
              go_roundw
              case rel => exact ⟨k + 1, by omega, by go_num, n7.out.bel, n7.out.x0, n7.out.x1⟩
              case measure => simp [intOf]; omega
            · have hki : ¬ ((k : Int) < (rs.length : Int)) := by omega
              have hn16 : cs.length ≤ 16 := by omega
              obtain ⟨A, hA⟩ : ∃ A, A = kN cs true cs.length := ⟨_, rfl⟩
              obtain ⟨B, hB⟩ : ∃ B, B = kN cs false cs.length := ⟨_, rfl⟩
              have RA := hid (fun W h => rollback_any W _ _ ⟨a', rs.length, c', rfl⟩ cs (HC.out.later h) (by omega))
              have RB := hid (fun W h => shown_any W _ _ ⟨a', rs.length, c', rfl⟩ cs (HC.out.later h) (by omega))
              have lA : A < 4294967296 := by rw [hA]; exact kN_lt _ _ _ (by omega)
              have lB : B < 4294967296 := by rw [hB]; exact kN_lt _ _ _ (by omega)
              have CA := hid (count_n1 (w := w) (g := w.heap.size) (va := .slice a cs.length c) A lA)
              have CB := hid (count_n1 (w := w) (g := w.heap.size) (va := .slice a cs.length c) B lB)
              rw [Nat.min_eq_left (by omega), kindM_nat _ _ _ (by omega)] at RA RB
              rw [← hA] at RA
              rw [← hB] at RB
              have hab : bits .and .u32 (A : Int) (B : Int) = 0 := by
                have e := (bits_nat .u32 32 (by decide) (fun n h0 h1 => by rw [IntKind.wrap_u32]; omega) A B (by omega) (by omega)).1
                rw [e, hA, hB, kN_both]; rfl
              have hsum : ones 32 A + ones 32 B = cs.length := by rw [hA, hB, kN_sum, Nat.min_eq_right (by omega)]
              generalize ones 32 A = z1 at CA hsum
              generalize ones 32 B = z2 at CB hsum
              have hsi : (z1 : Int) + (z2 : Int) = (cs.length : Int) := by omega
              clear hA hB hsum lA lB
              go_wp2_with fail
              refine (RA.out _ B5.out).mono ?_
              rintro e w6 ⟨rfl, b6⟩
              have x0 := Below.seen b6 (Nat.le_refl _) x0
              have x1 := Below.seen b6 (Nat.le_refl _) x1
              have B6 := hid (B5.out.trans (b6.mono B5.out.size))
              clear b6
              go_wp2_with fail
              refine (RB.out _ B6.out).mono ?_
              rintro e w7 ⟨rfl, b7⟩
              have x0 := Below.seen b7 (Nat.le_refl _) x0
              have B7 := hid (B6.out.trans (b7.mono B6.out.size))
              clear b7
              go_wp2_with fail
              have n7 : N1 w w.heap.size (.slice a cs.length c) w7 := ⟨B7.out, x0⟩
              have n7d := n7.drew
              have HSW : Hid (IntKind.i64.wrap (cs.length : Int) = (cs.length : Int)) := IntWalk.i64_in _ (by omega)
              go_region_held3 (fun W => W.cell? ⟨w.heap.size, 0, none⟩ = some (.slice a cs.length c)) (first | go_keep | (exact N1.x0 (by assumption))) (first
                | (go_at_call 26; refine (CA.out _ (by assumption)).mono ?_; rintro e w8 ⟨rfl, n8⟩)
                | (go_at_call 26; refine (CB.out _ (by assumption)).mono ?_; rintro e w9 ⟨rfl, n9⟩))
              have B9 := hid n9.bel
              go_wp2_with fail
              go_ret
              refine ⟨?_, B9.out⟩
              show Ending.returned (.bool (IntKind.i64.wrap (cs.length : Int) == (cs.length : Int))) = _
              rw [HSW.out, beq_self_eq_true]
    · obtain ⟨t, q, rfl⟩ := top_some t4 hnil
      clear t4 hnil
      go_wp2_with fail
      go_ret
      exact ⟨rfl, B4.out⟩
end Go.Proofs.YtmekfiafdjdopaaDoor
