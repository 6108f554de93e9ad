/- CodeShown. -/
import Derived.Test.YtkhhiddemihnbaaDoorCwLc
import Derived.Test.YtkhhiddemihnbaaDoorCwDe
namespace Go.Proofs.YtkhhiddemihnbaaDoor.Cw
open Go.RowKit Go.Shelf
theorem own_put {B : Nat} {W : World} {ty : TypeId} {sz g n cap j : Nat} {xs : List Value} (u : Value) (h : W.ownsRow B ty sz (.slice (some ⟨g, 0, none⟩) n cap) n xs) : (W.setCell ⟨g, j, none⟩ u).ownsRow B ty sz (.slice (some ⟨g, 0, none⟩) n cap) n (xs.set j u) := by
  rcases h.2 with ⟨h1, _⟩ | ⟨g', cap', cur, h1, h2, h3, h4, h5, h6, h7⟩
  · cases h1
  · simp only [Value.slice.injEq, Option.some.injEq, Addr.mk.injEq, true_and, and_true] at h1
    obtain ⟨rfl, rfl⟩ := h1
    refine ⟨by rw [List.length_set]; exact h.1, .inr ⟨g, cap, cur.setIfInBounds j u, rfl, h2, heap_setCell_same W g j cur ty u h3, h4, h5, by simpa using h6, ?_⟩⟩
    rw [Array.toList_setIfInBounds, List.take_set, h7]
theorem own_blk {B : Nat} {W : World} {ty : TypeId} {sz g n cap : Nat} {xs : List Value} (h : W.ownsRow B ty sz (.slice (some ⟨g, 0, none⟩) n cap) n xs) : ∃ cur, W.heap[g]? = some (.cells cur ty (0, 0)) ∧ B ≤ g := by
  rcases h.2 with ⟨h1, _⟩ | ⟨g', cap', cur, h1, h2, h3, h4⟩
  · cases h1
  · simp only [Value.slice.injEq, Option.some.injEq, Addr.mk.injEq, true_and, and_true] at h1
    obtain ⟨rfl, rfl⟩ := h1
    exact ⟨cur, h3, h2⟩
/-- The schema, its first components only shown. -/
def shC (k i : Nat) : Cmp := ⟨⟨#[97 + i.toUInt8]⟩, (i : Int) + 1, decide (i < 3) && decide (k ≤ i), 0, 0, 0, 0⟩
def shL (k : Nat) : List Cmp := (List.range 4).map (shC k)
theorem sh_first : shL 0 = plainC true := by kernel_rfl
theorem sh_last : shL 4 = plainC false := by kernel_rfl
theorem sh_next : ∀ k, k < 4 → (cCells (shL k)).set (k * 7 + 2) (.bool false) = cCells (shL (k + 1)) := by
  intro k hk
  have h : k = 0 ∨ k = 1 ∨ k = 2 ∨ k = 3 := by omega
  rcases h with rfl | rfl | rfl | rfl <;> (show _ = _; kernel_rfl)
theorem sh_len (k : Nat) : (shL k).length = 4 := by simp [shL]
theorem sh_at {k : Nat} (h : k < 4) : (cCells (shL k))[k * 7 + 2]? = some (.bool (decide (k < 3))) := by
  have h : k = 0 ∨ k = 1 ∨ k = 2 ∨ k = 3 := by omega
  rcases h with rfl | rfl | rfl | rfl <;> (show _ = _; kernel_rfl)
structure Shw (W0 : World) (g sb qb cap k : Nat) (wr : World) : Prop where
  row : wr.ownsRow W0.heap.size 65 7 (.slice (some ⟨g, 0, none⟩) 4 cap) 4 (cCells (shL k))
  box : wr.heap[sb]? = some (.cells #[.slice (some ⟨g, 0, none⟩) 4 cap, vQ qb] 39 (0, 0))
  rsc : wr.heap[qb]? = some (.cells aQ 98 (0, 0))
  bel : Below W0.heap.size W0 wr
theorem Shw.put {W0 wr : World} {g sb qb cap k : Nat} (h : Shw W0 g sb qb cap k wr) (hk : k < 4) : Shw W0 g sb qb cap (k + 1) (wr.setCell ⟨g, k * 7 + 2, none⟩ (.bool false)) := by
  obtain ⟨cur, hg, hB⟩ := own_blk h.row
  have n1 : sb ≠ g := by
    rintro rfl
    have := h.box.symm.trans hg
    simp at this
  have n2 : qb ≠ g := by
    rintro rfl
    have := h.rsc.symm.trans hg
    simp at this
  have s : St (fun x => x = g) wr (wr.setCell ⟨g, k * 7 + 2, none⟩ (.bool false)) := St.setCell _ rfl
  refine ⟨?_, s.at h.box n1, s.at h.rsc n2, h.bel.trans (s.below (fun x hx => by omega) h.bel.size)⟩
  rw [← sh_next k hk]
  exact own_put _ h.row
theorem Shw.cell {W0 wr : World} {g sb qb cap k : Nat} (h : Shw W0 g sb qb cap k wr) (hk : k < 4) : wr.cell? ⟨g, k * 7 + 2, none⟩ = some (.bool (decide (k < 3))) ∧ wr.frozen? ⟨g, k * 7 + 2, none⟩ = false ∧ wr.cell? ⟨sb, 0, none⟩ = some (.slice (some ⟨g, 0, none⟩) 4 cap) ∧ wr.cell? ⟨sb, 1, none⟩ = some (vQ qb) := by
  obtain ⟨cur, hg, hB⟩ := own_blk h.row
  refine ⟨?_, blk_free hg _, cell_blk h.box rfl, cell_blk h.box rfl⟩
  rw [h.row.cellAt (k * 7 + 2) (by omega)]
  exact sh_at hk
theorem shown_begin {W0 w6 : World} {va : Value} {qb : Nat} (hc : Cmps W0.heap.size w6 va (plainC true)) (hq : w6.heap[qb]? = some (.cells aQ 98 (0, 0))) (hb : Below W0.heap.size W0 w6) : ∃ g cap, va = .slice (some ⟨g, 0, none⟩) 4 cap ∧ Shw W0 g w6.heap.size qb cap 0 (w6.alloc (.cells #[va, vQ qb] 39)) := by
  have hc2 : w6.ownsRow W0.heap.size 65 7 va 4 (cCells (plainC true)) := hc
  obtain ⟨g, c, rfl⟩ : ∃ g c, va = .slice (some ⟨g, 0, none⟩) 4 c := by
    rcases hc2.2 with ⟨_, h0⟩ | ⟨g, cap, cur, h1, _⟩
    · cases h0
    · exact ⟨g, cap, h1⟩
  refine ⟨g, c, rfl, ?_, heap_alloc_new w6 _, ?_, hb.trans ((bAl w6 _).mono hb.size)⟩
  · rw [sh_first]
    exact World.ownsRow.alloc hc _
  · exact blk_seen (bAl w6 _) (Nat.le_refl _) hq
theorem reads_next {l : List Ins} {k : Nat} {x : Ins} (h : l[k]? = some x) : (l.take (k + 1)).any reads = ((l.take k).any reads || reads x) := any_next reads h
set_option maxHeartbeats 6400000 in
set_option maxRecDepth 100000 in
theorem shown_law (W : World) (Ad : Nat → Addr) (hO : OpsAt W) (hE : Env8 W Ad) (v : Value) (l : List Ins) (hI : InsRow W v l) : Calls Tryd.prog 7 #[v] W fun e W' => e = .returned (.bool true) ∧ Below W.heap.size W W' := by
  have HO := hid hO
  have HE := hid hE
  have HI := hid hI
  have AW := hid (awake_any W Ad hO hE)
  obtain ⟨sa, sc, rfl, -, -⟩ := hI
  clear hO hE
  by_cases h80 : (80 : Int) < (l.length : Int)
  · go_enter Tryd.func7, Tryd.ntmps7
    go_wp2_with fail
    refine AW.out.mono ?_
    rintro e w1 ⟨rfl, b1⟩
    have B1 := hid b1
    clear b1 AW
    go_wp2_with fail
    go_ret
    exact ⟨rfl, B1.out⟩
  · go_enter Tryd.func7, Tryd.ntmps7
    go_wp2_with fail
    refine AW.out.mono ?_
    rintro e w1 ⟨rfl, b1⟩
    have B1 := hid b1
    have PL := hid (plain_any w1)
    clear b1 AW
    go_wp2_with fail
    refine PL.out.mono ?_
    rintro e w2 ⟨va, vb, rfl, hc2, hq2, b2⟩
    have B2 := hid (B1.out.trans (b2.mono B1.out.size))
    have AC := hid (accept_any Ad w2 va vb (.slice sa l.length sc) (plainC true) plainQ l (HO.out.later B2.out) (HE.out.later B2.out) hc2.row hq2 (HI.out.later B2.out) (by decide) (by decide) (by omega))
    clear b2 PL hc2 hq2
    go_wp2_with fail
    refine AC.out.mono ?_
    rintro e w3 ⟨v3, rfl, hy, hn, b3⟩
    have B3 := hid (B2.out.trans (b3.mono B2.out.size))
    clear b3 AC
    by_cases hA : Acc (plainC true) plainQ l
    · obtain rfl := hy hA
      have HA := hid hA
      have PO := hid (plain_own w3)
      clear hy hn hA
      have h64 : (l.length : Int) ≤ 80 := by omega
      go_wp2_with fail
      refine PO.out.mono ?_
      rintro e w6 ⟨va6, qb, rfl, hc6, hq6, b6⟩
      obtain ⟨g, cap, rfl, hs⟩ := shown_begin hc6 hq6 b6
      have SH := hid hs
      clear hc6 hq6 b6 hs PO
      go_upto_region 6 with fail
      generalize w6.alloc (.cells #[.slice (some ⟨g, 0, none⟩) 4 cap, vQ qb] 39) = w7 at *
      generalize w6.heap.size = sb at *
      have B7 := hid (B3.out.trans (SH.out.bel.mono B3.out.size))
      go_wp2_with fail
      go_loop [4, 5] (fun rd i => ∃ k : Nat, k ≤ l.length ∧ i = .int .i64 (k : Int) ∧ rd = .bool ((l.take k).any reads)) (fun _ i => l.length - (intOf i).toNat)
      case atStart => exact ⟨0, Nat.zero_le _, rfl, rfl⟩
      case round =>
        obtain ⟨k, hk, rfl, rfl⟩ := hrel
        by_cases hlt : k < l.length
        · have hki : (k : Int) < (l.length : Int) := by omega
          obtain ⟨x, hx⟩ := at_lt l k hlt
          obtain ⟨a', c', e', -, hlay⟩ := HI.out
          simp only [Value.slice.injEq, true_and] at e'
          obtain ⟨rfl, rfl⟩ := e'
          rcases hlay with h0 | ⟨bb, oo, rfl, hc⟩
          · rw [h0] at hx
            simp at hx
          obtain ⟨x0, x1, x2⟩ := (hc k x hx).later B7.out
          have RN := hid (reads_next hx)
          have SR := hid (fun hr => shown_reads (HA.out.1.2 x (List.mem_of_getElem? hx)) hr)
          have ER : Hid (reads x = (x.1 == 22 || x.1 == 24)) := rfl
          generalize (l.take k).any reads = rd at *
          obtain ⟨op, xa, xb⟩ := x
          simp only [] at x0 x1 x2 SR ER
          clear hc hx
          cases h22 : op == 22 with
          | true =>
            have hr : reads (op, xa, xb) = true := by rw [ER.out, h22]; rfl
            have := SR.out hr
            have a0 : ¬ (xa < 0) := by omega
            have a2 : ¬ (2 < xa) := by omega
            rw [hr] at RN
            clear hr this SR ER
            go_wp2_with fail
            go_round
            case rel => exact ⟨k + 1, by omega, by go_num, by rw [RN.out, Bool.or_true]⟩
            case measure => simp [intOf]; omega
          | false =>
            cases h24 : op == 24 with
            | true =>
              have hr : reads (op, xa, xb) = true := by rw [ER.out, h22, h24]; rfl
              have := SR.out hr
              have a0 : ¬ (xa < 0) := by omega
              have a2 : ¬ (2 < xa) := by omega
              rw [hr] at RN
              clear hr this SR ER
              go_wp2_with fail
              go_round
              case rel => exact ⟨k + 1, by omega, by go_num, by rw [RN.out, Bool.or_true]⟩
              case measure => simp [intOf]; omega
            | false =>
              have hr : reads (op, xa, xb) = false := by rw [ER.out, h22, h24]; rfl
              rw [hr] at RN
              clear hr SR ER
              go_wp2_with fail
              go_round
              case rel => exact ⟨k + 1, by omega, by go_num, by rw [RN.out, Bool.or_false]⟩
              case measure => simp [intOf]; omega
        · have hki : ¬ ((k : Int) < (l.length : Int)) := by omega
          obtain rfl : k = l.length := by omega
          rw [List.take_of_length_le (Nat.le_refl _)]
          have AS := hid (acc_shown HA.out)
          generalize l.any reads = rd at *
          go_wp2_with fail
          go_loopw [6] (fun i wr => ∃ k : Nat, k ≤ 4 ∧ i = .int .i64 (k : Int) ∧ Hid (Shw w3 g sb qb cap k wr)) (fun i _ => 4 - (intOf i).toNat)
          case atStart => exact ⟨0, Nat.zero_le _, rfl, SH⟩
          case round =>
            obtain ⟨j, hj, rfl, HS⟩ := hrel
            by_cases hj4 : j < 4
            · have hji : (j : Int) < 4 := by omega
              obtain ⟨z0, z1, z2, z3⟩ := HS.out.cell hj4
              have NS := hid (HS.out.put hj4)
              go_wp2_with fail
              go_roundw
              case rel => exact ⟨j + 1, by omega, by go_num, NS⟩
              case measure => simp [intOf]; omega
            · have hji : ¬ ((j : Int) < 4) := by omega
              obtain rfl : j = 4 := by omega
              have z2 : wr.cell? ⟨sb, 0, none⟩ = some (.slice (some ⟨g, 0, none⟩) 4 cap) := cell_blk HS.out.box rfl
              have z3 : wr.cell? ⟨sb, 1, none⟩ = some (vQ qb) := cell_blk HS.out.box rfl
              have BW := hid (B3.out.trans (HS.out.bel.mono B3.out.size))
              have CR : Cmps w3.heap.size wr (.slice (some ⟨g, 0, none⟩) 4 cap) (plainC false) := by
                have h := HS.out.row
                rw [sh_last] at h
                exact h
              have AC := hid (accept_any Ad wr (.slice (some ⟨g, 0, none⟩) 4 cap) (vQ qb) (.slice sa l.length sc) (plainC false) plainQ l (HO.out.later BW.out) (HE.out.later BW.out) CR.row (rsc_row HS.out.rsc) (HI.out.later BW.out) (by decide) (by decide) (by omega))
              clear CR
              go_wp2_with fail
              refine AC.out.mono ?_
              rintro e w9 ⟨v9, rfl, hy9, hn9, b9⟩
              have B9 := hid (BW.out.trans (b9.mono BW.out.size))
              clear b9 AC
              cases rd with
              | false =>
                obtain rfl := hy9 (AS.out.2 rfl)
                clear hy9 hn9
                go_wp2_with fail
                go_ret
                exact ⟨rfl, B9.out⟩
              | true =>
                obtain ⟨t, q, rfl⟩ := hn9 fun h => by
                  have := AS.out.1 h
                  cases this
                clear hy9 hn9
                go_wp2_with fail
                go_ret
                exact ⟨rfl, B9.out⟩
    · obtain ⟨t, q, rfl⟩ := hn hA
      clear hy hn hA
      go_wp2_with fail
      go_ret
      exact ⟨rfl, B3.out⟩
end Go.Proofs.YtkhhiddemihnbaaDoor.Cw
