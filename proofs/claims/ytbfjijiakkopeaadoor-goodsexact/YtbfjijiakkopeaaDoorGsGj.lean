/- GoodsStays: the walk. -/
import Derived.Test.YtbfjijiakkopeaaDoorGsGi
namespace Go.Proofs.YtbfjijiakkopeaaDoor.Gs
open Go.RowKit Go.Shelf Go.Maps
open Go.Proofs.YtbfjijiakkopeaaDoor.Sc (Rsc RscRow)
/-- What the numbers begin with, so far. -/
def ini (k : Nat) : List Int := (List.range 8).map fun i => if i < k then 10 * (i : Int) else 0
theorem ini_set : ∀ k, k < 8 → (ini k).set k (10 * (k : Int)) = ini (k + 1) := by decide
theorem ini_len (k : Nat) : (ini k).length = 8 := by simp [ini]
theorem arr_set (l : List Int) (k : Nat) (x : Int) : (l.map gz).toArray.setIfInBounds k (.int .i64 x) = ((l.set k x).map gz).toArray := by
  rw [List.map_set]
  simp
  rfl
theorem arr_at {l : List Int} {k : Nat} {x : Int} (h : l[k]? = some x) : (l.map gz).toArray[k]? = some (.int .i64 x) := by
  simp [h]
  rfl
theorem ini_all : ini 8 = (eightL 8).map Rsc.n := by decide
theorem eight_pl (j : Nat) (hj : j < 8) : pl ((eightL 8).map Rsc.s) (eightC j).s = (j : Int) ∧ Sc.memB ((eightL 8).map Rsc.s) (eightC j).s = true := by
  have hkc : j = 0 ∨ j = 1 ∨ j = 2 ∨ j = 3 ∨ j = 4 ∨ j = 5 ∨ j = 6 ∨ j = 7 := by omega
  rcases hkc with rfl | rfl | rfl | rfl | rfl | rfl | rfl | rfl <;> exact ⟨by kernel_rfl, by kernel_rfl⟩
set_option maxRecDepth 1000000 in
theorem sub_name2 (k : Nat) (hk : k < 8) (w : World) : (Instr.slice 9 (.string ⟨#[115, 116, 117, 118, 119, 120, 121, 122]⟩) (some (.int .i64 (k : Int))) (some (.int .i64 ((k : Int) + 1))) none).run Tryd.prog w = .ok (.string (eightC k).s) w := by
  have hkc : k = 0 ∨ k = 1 ∨ k = 2 ∨ k = 3 ∨ k = 4 ∨ k = 5 ∨ k = 6 ∨ k = 7 := by omega
  rcases hkc with rfl | rfl | rfl | rfl | rfl | rfl | rfl | rfl <;> (show _ = _; first | kernel_rfl | (simp [Instr.slice, eightC, go_sem]; done) | rfl)
theorem numAt_nat {l : List Int} {j : Nat} {y : Int} (h : l[j]? = some y) : numAt l (j : Int) = some y := by
  unfold numAt
  rw [if_pos (by omega)]
  simpa using h
set_option maxHeartbeats 4000000 in
set_option maxRecDepth 100000 in
theorem stays_law (W : World) (Ad : Nat → Addr) (hE : Env8 W Ad) (v : Value) (xs : List ActI) (hA : ActRow W v xs) :
    Calls Tryd.prog 4 #[v] W fun e W' => e = .returned (.bool true) ∧ Below W.heap.size W W' := by
  have AW := hid (awake_any Ad W hE)
  have HA := hid hA
  have HE := hid hE
  obtain ⟨a, c, rfl, -, -⟩ := hA
  clear hE
  go_enter Tryd.func4, Tryd.ntmps4
  go_wp2_with fail
  refine AW.out.mono ?_
  rintro e w1 ⟨rfl, hb1⟩
  have B1 := hid hb1
  have NM := hid (names_any w1)
  clear AW hb1
  go_wp2_with fail
  refine NM.out.mono ?_
  rintro e w2 ⟨va, rfl, hr2, hb2⟩
  have B2 := hid (B1.out.trans (hb2.mono B1.out.size))
  have NW := hid (new_ok Ad w2 (.slice none 0 0) va [] (eightL 8) (HE.out.later B2.out) ⟨none, 0, rfl, Nat.le_refl _, .inl rfl⟩ hr2 ⟨by simp, trivial⟩ ⟨by decide, trivial⟩ eight_ok)
  obtain ⟨a2, c2, rfl, -⟩ := hr2
  clear NM hb2
  go_wp2_with fail
  refine NW.out.mono ?_
  rintro e w3 ⟨gb, rfl, ⟨mb, v3, h3⟩, hb3⟩
  have G3 : Hid (Gw w2 gb mb v3 ((eightL 8).map Rsc.s) ((eightL 8).map Rsc.n) 0 [] w3) := ⟨h3, hb3, fun x hx => by simp at hx⟩
  clear NW h3 hb3
  go_upto_region 7 with fail
  obtain ⟨w4, hw4⟩ : ∃ w4, w4 = w3.alloc (.cells #[.int .i64 0, .int .i64 0, .int .i64 0, .int .i64 0, .int .i64 0, .int .i64 0, .int .i64 0, .int .i64 0] 60) := ⟨_, rfl⟩
  obtain ⟨lb, hlb⟩ : ∃ lb, lb = w3.heap.size := ⟨_, rfl⟩
  have LB : Hid (w2.heap.size ≤ lb) := by rw [hlb]; exact G3.out.bel.size
  have G4 : Hid (Gw w2 gb mb v3 ((eightL 8).map Rsc.s) ((eightL 8).map Rsc.n) 0 [(lb, .cells ((ini 0).map gz).toArray 60 (0, 0))] w4) := by rw [hw4, hlb]; exact G3.out.alloc _ _
  rw [← hw4, ← hlb]
  clear hw4 hlb G3
  obtain ⟨NS, hNS⟩ : ∃ NS, NS = (eightL 8).map Rsc.s := ⟨_, rfl⟩
  obtain ⟨L0, hL0⟩ : ∃ L0, L0 = (eightL 8).map Rsc.n := ⟨_, rfl⟩
  rw [← hNS, ← hL0] at G4
  have HNS := hid hNS
  have HL0 := hid hL0
  obtain ⟨E8, hE8⟩ : ∃ E8, E8 = (eightL 8).length := ⟨_, rfl⟩
  rw [← hE8]
  clear hNS hL0 hE8
  go_wp2_with fail
  go_loopw [6] (fun i wr => ∃ k : Nat, k ≤ 8 ∧ i = .int .i64 (k : Int) ∧ Hid (Gw w2 gb mb v3 NS L0 0 [(lb, .cells ((ini k).map gz).toArray 60 (0, 0))] wr)) (fun i _ => 8 - (intOf i).toNat)
  case atStart => exact ⟨0, Nat.zero_le _, rfl, G4.out⟩
  case round =>
    clear G4
    obtain ⟨k, hk, rfl, HK⟩ := hrel
    by_cases hlt : k < 8
    · have hki : (k : Int) < 8 := by omega
      have bx := HK.out.at (List.mem_cons_self ..)
      obtain ⟨y, hy⟩ := at_lt (ini k) k (by rw [ini_len]; omega)
      have c0 : wr.cell? ⟨lb, k, none⟩ = some (.int .i64 y) := cell_blk bx (arr_at hy)
      have f0 := blk_free bx k
      have NX : Hid (Gw w2 gb mb v3 NS L0 0 [(lb, .cells ((ini (k + 1)).map gz).toArray 60 (0, 0))] (wr.setCell ⟨lb, k, none⟩ (.int .i64 (10 * (k : Int))))) := by
        have := HK.out.put (j := k) LB.out (fun x hx => by simp at hx) (.int .i64 (10 * (k : Int)))
        rw [arr_set, ini_set k hlt] at this
        exact this
      clear bx hy
      go_wp2_with fail
      go_roundw
      case rel => exact ⟨k + 1, by omega, by go_num, NX.out⟩
      case measure => simp [intOf]; omega
    · have hki : ¬ (k : Int) < 8 := by omega
      obtain rfl : k = 8 := by omega
      have G5 : Hid (L0.length = 8 ∧ Gw w2 gb mb v3 NS L0 0 [(lb, .cells (L0.map gz).toArray 60 (0, 0))] wr) := by
        refine ⟨by rw [HL0.out]; rfl, ?_⟩
        have := HK.out
        rw [ini_all, ← HL0.out] at this
        exact this
      clear HK hk hlt
      go_wp2_with fail
      rename World => wo
      go_loopw [7, 8, 9, 10] (fun i _ _ _ wr => ∃ (k : Nat) (l : List Int), k ≤ xs.length ∧ k ≤ 100 ∧ i = .int .i64 (k : Int) ∧ Hid (l.length = 8 ∧ Gw w2 gb mb v3 NS l k [(lb, .cells (l.map gz).toArray 60 (0, 0))] wr)) (fun i _ _ _ _ => 100 - (intOf i).toNat)
      case atStart => exact ⟨0, L0, Nat.zero_le _, by omega, rfl, G5.out⟩
      case round =>
        clear G5
        obtain ⟨k, l, hk, hk1, rfl, HK⟩ := hrel
        by_cases hlt : k < xs.length ∧ k < 100
        · obtain ⟨hlt1, hlt2⟩ := hlt
          have hki : (k : Int) < (xs.length : Int) := by omega
          have hki2 : (k : Int) < 100 := by omega
          obtain ⟨x, hx⟩ := at_lt xs k hlt1
          obtain ⟨b, o, rfl, c1, c2⟩ : ∃ b o, a = some ⟨b, o, none⟩ ∧ wr.cell? ⟨b, o + k * 4 + 1, none⟩ = some (.int .i64 x.i) ∧ wr.cell? ⟨b, o + k * 4 + 2, none⟩ = some (.int .i64 x.n) := by
            obtain ⟨a', c', hv, -, hl2⟩ := HA.out.later (B2.out.trans (HK.out.2.bel.mono B2.out.size))
            obtain ⟨rfl, rfl⟩ : a = a' ∧ c = c' := by simpa using hv
            rcases hl2 with q | ⟨b, o, q1, q2⟩
            · rw [q] at hx; simp at hx
            · obtain ⟨-, p1, p2, -⟩ := q2 k x hx
              exact ⟨b, o, q1, p1, p2⟩
          obtain ⟨q, hq8, hqe⟩ : ∃ q : Nat, q < 8 ∧ wrap64 ((IntKind.u64.wrap x.i).tmod 8) = (q : Int) := ⟨uq x.i, uq_lt _, uq_w _⟩
          have hqi : (q : Int) < 8 := by omega
          obtain ⟨y, hy⟩ := at_lt l q (by rw [HK.out.1]; exact hq8)
          have SI := hid (set_in HK.out.2.gd (by omega) q x.n y hy)
          have NX : Hid (∀ w', Gd w2.heap.size w' gb mb v3 NS (l.set q x.n) (k + 1) → St (Ft gb v3) wr w' → (w'.cell? ⟨lb, q, none⟩ = some (.int .i64 y) ∧ w'.frozen? ⟨lb, q, none⟩ = false ∧ w'.cell? ⟨b, o + k * 4 + 2, none⟩ = some (.int .i64 x.n)) ∧ ((l.set q x.n).length = 8 ∧ Gw w2 gb mb v3 NS (l.set q x.n) (k + 1) [(lb, .cells ((l.set q x.n).map gz).toArray 60 (0, 0))] (w'.setCell ⟨lb, q, none⟩ (.int .i64 x.n)))) := by
            intro w' q1 q2
            have G := HK.out.2.step q1 q2
            have bx := G.at (List.mem_cons_self ..)
            refine ⟨⟨cell_blk bx (arr_at hy), blk_free bx q, ?_⟩, by simpa using HK.out.1, ?_⟩
            · obtain ⟨a', c', hv, -, hl2⟩ := HA.out.later (B2.out.trans (G.bel.mono B2.out.size))
              rcases hl2 with e | ⟨b', o', e1, e2⟩
              · rw [e] at hx; simp at hx
              · obtain ⟨e3, -⟩ : some (⟨b, o, none⟩ : Addr) = a' ∧ c = c' := by simpa using hv
                rw [e1] at e3
                obtain ⟨rfl, rfl⟩ : b = b' ∧ o = o' := by simpa using e3
                exact (e2 k x hx).2.2.1
            · have := G.put (j := q) LB.out (fun x hx => by simp at hx) (.int .i64 x.n)
              rw [arr_set] at this
              exact this
          clear hx hy HK
          go_upto_region 15 with fail
          rw [hqe]
          go_wp2_with fail
          refine SI.out.mono ?_
          rintro e w5 ⟨rfl, hg, hs⟩
          have N5 := hid (NX.out w5 hg hs)
          obtain ⟨d0, d1, d2⟩ := N5.out.1
          clear SI NX hg hs c1 c2 hqe
          go_wp2_with fail
          go_roundw
          case rel => exact ⟨k + 1, _, by omega, by omega, by go_num, N5.out.2⟩
          case measure => simp [intOf]; omega
        · have hmin : min (xs.length : Int) 100 = (k : Int) := by omega
          by_cases hA : k < xs.length
          · have hki : (k : Int) < (xs.length : Int) := by omega
            have hkj : ¬ (k : Int) < 100 := by omega
            clear hk hlt hk1 hA
            go_upto_region 19 with fail
            clear hki hkj
            have GT : Hid (∀ j : Nat, j < 8 → ∃ y, wr.cell? ⟨lb, j, none⟩ = some (.int .i64 y) ∧ Calls Tryd.prog 18 #[.pointer (some ⟨gb, 0, none⟩), .int .i64 (j : Int)] wr fun e W' => e = .returned (.tuple #[.int .i64 y, .bool true]) ∧ W' = wr) := by
              intro j hj
              obtain ⟨y, hy⟩ := at_lt l j (by rw [HK.out.1]; exact hj)
              have := get_any HK.out.2.gd (HK.out.2.env (HE.out.later B2.out)) (j : Int)
              rw [numAt_nat hy] at this
              exact ⟨y, cell_blk (HK.out.2.at (List.mem_cons_self ..)) (arr_at hy), this⟩
            have ND : Hid (∀ j : Nat, j < 8 → Calls Tryd.prog 20 #[.pointer (some ⟨gb, 0, none⟩), .string (eightC j).s] wr fun e W' => e = .returned (.tuple #[.int .i64 (j : Int), .bool true]) ∧ W' = wr) := by
              intro j hj
              have := named_any HK.out.2.gd (eightC j).s (by show 1 ≤ maxLen; decide)
              rw [HNS.out, (eight_pl j hj).1, (eight_pl j hj).2] at this
              exact this
            have CH := hid (changes_any HK.out.2.gd)
            have BF := hid (B2.out.trans (HK.out.2.bel.mono B2.out.size))
            clear HK
            go_wp2_with fail
            go_loop [11, 12, 13, 14, 15] (fun i _ _ _ _ => ∃ j : Nat, j ≤ 8 ∧ i = .int .i64 (j : Int)) (fun i _ _ _ _ => 8 - (intOf i).toNat)
            case atStart => exact ⟨0, Nat.zero_le _, rfl⟩
            case round =>
              obtain ⟨j, hj, rfl⟩ := hrel
              by_cases hj8 : j < 8
              · have hji : (j : Int) < 8 := by omega
                obtain ⟨y, cy, GC⟩ := GT.out j hj8
                have GC' := hid GC
                have NC := hid (ND.out j hj8)
                have hsl := sub_name2 j hj8
                obtain ⟨s, hs⟩ : ∃ s, s = (eightC j).s := ⟨_, rfl⟩
                rw [← hs] at NC hsl
                clear hs GC
                go_wp2_with fail
                refine GC'.out.mono ?_
                rintro e w' ⟨rfl, hq⟩
                obtain rfl := hq.symm
                clear hq GC'
                go_wp2_with fail
                refine NC.out.mono ?_
                rintro e w' ⟨rfl, hq⟩
                obtain rfl := hq.symm
                clear hq NC
                go_wp2_with fail
                go_round
                case rel => exact ⟨j + 1, by omega, by go_num⟩
                case measure => simp [intOf]; omega
              · have hji : ¬ (j : Int) < 8 := by omega
                go_wp2_with fail
                refine CH.out.mono ?_
                rintro e w' ⟨rfl, hq⟩
                obtain rfl := hq.symm
                clear hq CH
                go_wp2_with fail
                go_ret
                exact ⟨rfl, BF.out⟩
          · have hki : ¬ (k : Int) < (xs.length : Int) := by omega
            have hkj : (k : Int) < 101 := by omega
            clear hk hlt hk1 hA
            go_upto_region 19 with fail
            clear hki hkj
            have GT : Hid (∀ j : Nat, j < 8 → ∃ y, wr.cell? ⟨lb, j, none⟩ = some (.int .i64 y) ∧ Calls Tryd.prog 18 #[.pointer (some ⟨gb, 0, none⟩), .int .i64 (j : Int)] wr fun e W' => e = .returned (.tuple #[.int .i64 y, .bool true]) ∧ W' = wr) := by
              intro j hj
              obtain ⟨y, hy⟩ := at_lt l j (by rw [HK.out.1]; exact hj)
              have := get_any HK.out.2.gd (HK.out.2.env (HE.out.later B2.out)) (j : Int)
              rw [numAt_nat hy] at this
              exact ⟨y, cell_blk (HK.out.2.at (List.mem_cons_self ..)) (arr_at hy), this⟩
            have ND : Hid (∀ j : Nat, j < 8 → Calls Tryd.prog 20 #[.pointer (some ⟨gb, 0, none⟩), .string (eightC j).s] wr fun e W' => e = .returned (.tuple #[.int .i64 (j : Int), .bool true]) ∧ W' = wr) := by
              intro j hj
              have := named_any HK.out.2.gd (eightC j).s (by show 1 ≤ maxLen; decide)
              rw [HNS.out, (eight_pl j hj).1, (eight_pl j hj).2] at this
              exact this
            have CH := hid (changes_any HK.out.2.gd)
            have BF := hid (B2.out.trans (HK.out.2.bel.mono B2.out.size))
            clear HK
            go_wp2_with fail
            go_loop [11, 12, 13, 14, 15] (fun i _ _ _ _ => ∃ j : Nat, j ≤ 8 ∧ i = .int .i64 (j : Int)) (fun i _ _ _ _ => 8 - (intOf i).toNat)
            case atStart => exact ⟨0, Nat.zero_le _, rfl⟩
            case round =>
              obtain ⟨j, hj, rfl⟩ := hrel
              by_cases hj8 : j < 8
              · have hji : (j : Int) < 8 := by omega
                obtain ⟨y, cy, GC⟩ := GT.out j hj8
                have GC' := hid GC
                have NC := hid (ND.out j hj8)
                have hsl := sub_name2 j hj8
                obtain ⟨s, hs⟩ : ∃ s, s = (eightC j).s := ⟨_, rfl⟩
                rw [← hs] at NC hsl
                clear hs GC
                go_wp2_with fail
                refine GC'.out.mono ?_
                rintro e w' ⟨rfl, hq⟩
                obtain rfl := hq.symm
                clear hq GC'
                go_wp2_with fail
                refine NC.out.mono ?_
                rintro e w' ⟨rfl, hq⟩
                obtain rfl := hq.symm
                clear hq NC
                go_wp2_with fail
                go_round
                case rel => exact ⟨j + 1, by omega, by go_num⟩
                case measure => simp [intOf]; omega
              · have hji : ¬ (j : Int) < 8 := by omega
                go_wp2_with fail
                refine CH.out.mono ?_
                rintro e w' ⟨rfl, hq⟩
                obtain rfl := hq.symm
                clear hq CH
                go_wp2_with fail
                go_ret
                exact ⟨rfl, BF.out⟩
end Go.Proofs.YtbfjijiakkopeaaDoor.Gs
