/- The document's Means, the walk. -/
import Derived.Test.YtfabmleiibnhdaaDoorQuQk
namespace Go.Proofs.YtfabmleiibnhdaaDoor.Qu
open Go.RowKit Go.Shelf Go.Maps
open Go.Proofs.YtfabmleiibnhdaaDoor.At (St bAl cell_blk blk_seen blk_free an wi wi_bit wi_lt bits_or32 pow32)
open Go.Proofs.YtfabmleiibnhdaaDoor.Rs (Prt PRow Six six_blk)
theorem twelve (a b c m l i : Nat) :
    (a.testBit i = true ∧ m.testBit i = false ∧ Hid (badB a b c m l i = true)) ∨
    (a.testBit i = true ∧ m.testBit i = true ∧ b.testBit i = true ∧ Hid (badB a b c m l i = true)) ∨
    (a.testBit i = true ∧ m.testBit i = true ∧ b.testBit i = false ∧ c.testBit i = false ∧ Hid (badB a b c m l i = false)) ∨
    (a.testBit i = true ∧ m.testBit i = true ∧ b.testBit i = false ∧ c.testBit i = true ∧ l.testBit i = true ∧ Hid (badB a b c m l i = false)) ∨
    (a.testBit i = true ∧ m.testBit i = true ∧ b.testBit i = false ∧ c.testBit i = true ∧ l.testBit i = false ∧ Hid (badB a b c m l i = true)) ∨
    (a.testBit i = false ∧ b.testBit i = true ∧ m.testBit i = true ∧ Hid (badB a b c m l i = true)) ∨
    (a.testBit i = false ∧ b.testBit i = true ∧ m.testBit i = false ∧ c.testBit i = false ∧ Hid (badB a b c m l i = false)) ∨
    (a.testBit i = false ∧ b.testBit i = true ∧ m.testBit i = false ∧ c.testBit i = true ∧ l.testBit i = true ∧ Hid (badB a b c m l i = false)) ∨
    (a.testBit i = false ∧ b.testBit i = true ∧ m.testBit i = false ∧ c.testBit i = true ∧ l.testBit i = false ∧ Hid (badB a b c m l i = true)) ∨
    (a.testBit i = false ∧ b.testBit i = false ∧ c.testBit i = false ∧ Hid (badB a b c m l i = false)) ∨
    (a.testBit i = false ∧ b.testBit i = false ∧ c.testBit i = true ∧ l.testBit i = true ∧ Hid (badB a b c m l i = false)) ∨
    (a.testBit i = false ∧ b.testBit i = false ∧ c.testBit i = true ∧ l.testBit i = false ∧ Hid (badB a b c m l i = true)) := by
  unfold Hid badB
  cases a.testBit i <;> cases b.testBit i <;> cases c.testBit i <;> cases m.testBit i <;> cases l.testBit i <;> simp
set_option maxHeartbeats 6400000 in
set_option maxRecDepth 100000 in
theorem rmeans_any {W : World} {v : Value} {ps : List Prt} (a b c : Nat) (fr : Int) (hfr : J64 fr) (hP : PRow W v ps) (hl : ps.length ≤ 1000) :
    Calls Tryd.prog 10 #[.agg #[.int .u32 (a : Int), .int .u32 (b : Int), .int .u32 (c : Int)], .int .i64 fr, v] W fun e W' => e = .returned (.bool (meansB a b c fr ps)) ∧ Below W.heap.size W W' := by
  obtain ⟨w1, hw1⟩ : ∃ w1, w1 = W.alloc (.cells #[.int .u32 (a : Int), .int .u32 (b : Int), .int .u32 (c : Int)] 29) := ⟨_, rfl⟩
  have b1 : Below W.heap.size W w1 := by rw [hw1]; exact bAl _ _
  have r1 : w1.heap[W.heap.size]? = some (.cells #[.int .u32 (a : Int), .int .u32 (b : Int), .int .u32 (c : Int)] 29 (0, 0)) := by rw [hw1]; exact heap_alloc_new W _
  have k0 : w1.cell? ⟨W.heap.size, 0, none⟩ = some (.int .u32 (a : Int)) := cell_blk r1 rfl
  have k1 : w1.cell? ⟨W.heap.size, 1, none⟩ = some (.int .u32 (b : Int)) := cell_blk r1 rfl
  have k2 : w1.cell? ⟨W.heap.size, 2, none⟩ = some (.int .u32 (c : Int)) := cell_blk r1 rfl
  have HP := hid (hP.later b1)
  have HW1 := hid hw1
  have B1 := hid b1
  obtain ⟨pa, pc, rfl, -⟩ := hP
  have sw := snc_wrap fr hfr
  have MB := hid (means_bad a b c fr ps)
  have hli : (ps.length : Int) ≤ 1000 := by omega
  obtain ⟨s, HS⟩ : ∃ s, Hid (snc fr = s) := ⟨_, hid rfl⟩
  rw [HS.out] at sw MB
  clear hw1 b1 r1 hfr
  go_enter Tryd.func10, Tryd.ntmps10
  go_upto_region 1 with fail
  rw [← HW1.out]
  go_upto_region 2 with fail
  generalize (if fr < -4611686018427387904 then -4611686018427387904 else fr) = mx at sw ⊢
  go_wp2_with fail
  go_loopg [7, 8, 9, 10] ps.length (fun gh m t i _ wr => ∃ k : Nat, k ≤ ps.length ∧ gh = ps.length - k ∧ i = .int .i64 (k : Int) ∧ m = .int .u32 ((seM (ps.take k) : Nat) : Int) ∧ t = .int .u32 ((laM s (ps.take k) : Nat) : Int) ∧ wr = w1)
  case atStart => exact ⟨0, Nat.zero_le _, rfl, rfl, by simp [seM], by simp [laM], rfl⟩
  case round =>
    obtain ⟨k, hk, rfl, rfl, rfl, rfl, hwr⟩ := hrel
    obtain rfl := hwr.symm
    by_cases hlt : k < ps.length
    · have hki : (k : Int) < (ps.length : Int) := by omega
      obtain ⟨p, hp⟩ := at_lt ps k hlt
      obtain ⟨o1, o2, rfl, six⟩ := HP.out.at hp
      have d0 := six.c0
      have d5 := six.c5
      have SN := hid (seM_next hp)
      have LN := hid (laM_next s hp)
      have hm := seM_lt (ps.take k)
      have ht := laM_lt s (ps.take k)
      generalize seM (ps.take k) = m at *
      generalize laM s (ps.take k) = t at *
      clear hp six
      by_cases h0 : p.c < 0
      · have e1 : Hid (seM (ps.take (k + 1)) = m) := by show _ = _; rw [SN.out]; unfold seS; rw [if_neg (by omega)]
        have e2 : Hid (laM s (ps.take (k + 1)) = t) := by show _ = _; rw [LN.out]; unfold laS; rw [if_neg (by omega)]
        clear SN LN
        go_wp2_with fail
        go_roundg (ps.length - (k + 1))
        case measure => omega
        case rel => exact ⟨k + 1, by omega, rfl, by go_num, by rw [e1.out], by rw [e2.out], rfl⟩
      · by_cases h1 : 31 < p.c
        · have e1 : Hid (seM (ps.take (k + 1)) = m) := by show _ = _; rw [SN.out]; unfold seS; rw [if_neg (by omega)]
          have e2 : Hid (laM s (ps.take (k + 1)) = t) := by show _ = _; rw [LN.out]; unfold laS; rw [if_neg (by omega)]
          clear SN LN
          go_wp2_with fail
          go_roundg (ps.length - (k + 1))
          case measure => omega
          case rel => exact ⟨k + 1, by omega, rfl, by go_num, by rw [e1.out], by rw [e2.out], rfl⟩
        · obtain ⟨n, hn⟩ : ∃ n : Nat, p.c = (n : Int) := ⟨p.c.toNat, by omega⟩
          have hn32 : n < 32 := by omega
          have hni : (n : Int) ≤ 31 := by omega
          have hn0 : ¬ (n : Int) < 0 := by omega
          have hn1 : ¬ 31 < (n : Int) := by omega
          have pw := pow_u n hn32
          have q1 := bits_or32 m (2 ^ n) hm (pow32 hn32)
          have q2 := bits_or32 t (2 ^ n) ht (pow32 hn32)
          rw [hn] at d0
          have e1 : Hid (seM (ps.take (k + 1)) = m ||| 2 ^ n) := by show _ = _; rw [SN.out]; unfold seS; rw [if_pos (by omega), hn, Int.toNat_natCast]; rfl
          by_cases hs : s ≤ p.t
          · have e2 : Hid (laM s (ps.take (k + 1)) = t ||| 2 ^ n) := by show _ = _; rw [LN.out]; unfold laS; rw [if_pos ⟨by omega, hs⟩, hn, Int.toNat_natCast]; rfl
            clear SN LN h0 h1 hn hm ht
            generalize (2 ^ n : Nat) = q at *
            go_wp2_with fail
            go_roundg (ps.length - (k + 1))
            case measure => omega
            case rel => exact ⟨k + 1, by omega, rfl, by go_num, by rw [e1.out], by rw [e2.out], rfl⟩
          · have e2 : Hid (laM s (ps.take (k + 1)) = t) := by show _ = _; rw [LN.out]; unfold laS; rw [if_neg fun q => hs q.2]
            clear SN LN h0 h1 hn hm ht q2
            generalize (2 ^ n : Nat) = q at *
            go_wp2_with fail
            go_roundg (ps.length - (k + 1))
            case measure => omega
            case rel => exact ⟨k + 1, by omega, rfl, by go_num, by rw [e1.out], by rw [e2.out], rfl⟩
    · have hki : ¬ ((k : Int) < (ps.length : Int)) := by omega
      rw [List.take_of_length_le (by omega)]
      have RH := hid (fun m k hk w => rhas_any m k hk w)
      generalize seM ps = m at *
      generalize laM s ps = t at *
      clear sw HP
      go_wp2_with fail
      go_loopg [11] 32 (fun gh i wr => ∃ k : Nat, k ≤ 32 ∧ gh = 32 - k ∧ i = .int .i64 (k : Int) ∧ Hid (∀ j, j < k → badB a b c m t j = false) ∧ wr = w1)
      case atStart => exact ⟨0, Nat.zero_le _, rfl, rfl, fun j hj => absurd hj (by omega), rfl⟩
      case round =>
        obtain ⟨i, hi, rfl, rfl, HK, hwr⟩ := hrel
        obtain rfl := hwr.symm
        by_cases hlt2 : i < 32
        · have hii : (i : Int) < 32 := by omega
          rcases twelve a b c m t i with ⟨g1, g2, HB⟩ | ⟨g1, g2, g3, HB⟩ | ⟨g1, g2, g3, g4, HB⟩ | ⟨g1, g2, g3, g4, g5, HB⟩ | ⟨g1, g2, g3, g4, g5, HB⟩ | ⟨g1, g2, g3, HB⟩ | ⟨g1, g2, g3, g4, HB⟩ | ⟨g1, g2, g3, g4, g5, HB⟩ | ⟨g1, g2, g3, g4, g5, HB⟩ | ⟨g1, g2, g3, HB⟩ | ⟨g1, g2, g3, g4, HB⟩ | ⟨g1, g2, g3, g4, HB⟩
          all_goals
            go_wp2_with (go_at_call 25; refine (RH.out _ i hlt2 _).mono ?_; rintro e w5 ⟨rfl, hq5⟩; obtain rfl := hq5.symm)
            first
              | (have R : Hid (meansB a b c fr ps = false) := by
                   show _ = _
                   rw [Bool.eq_false_iff]
                   intro z
                   have := MB.out.1 z i hlt2
                   rw [show badB a b c m t i = true from HB.out] at this
                   cases this
                 go_ret
                 exact ⟨by rw [R.out]; rfl, B1.out⟩)
              | (have K2 : Hid (∀ j, j < i + 1 → badB a b c m t j = false) := fun j hj => by
                   by_cases e : j = i
                   · subst e; exact HB.out
                   · exact HK.out j (by omega)
                 go_roundg (32 - (i + 1))
                 case measure => omega
                 case rel => exact ⟨i + 1, by omega, rfl, by go_num, K2.out, rfl⟩)
        · have hii : ¬ ((i : Int) < 32) := by omega
          have R : Hid (meansB a b c fr ps = true) := MB.out.2 fun j hj => HK.out j (by omega)
          go_wp2_with fail
          go_ret
          exact ⟨by rw [R.out]; rfl, B1.out⟩
end Go.Proofs.YtfabmleiibnhdaaDoor.Qu
