/- Texts in one. -/
import Derived.Test.YtoafpfheopgdkaaGreatDoorMam
namespace Go.Proofs.YtoafpfheopgdkaaGreatDoor.Qu
open Go.RowKit Go.Shelf Go.Maps
open Go.Proofs.YtoafpfheopgdkaaGreatDoor.At (St bAl cell_blk blk_seen blk_free an wi wi_bit wi_lt bits_or32 pow32)
open Go.Proofs.YtoafpfheopgdkaaGreatDoor.Rs (Prt PRow Six six_blk)
theorem bit_int2 (m k : Nat) : ((((m : Int) / 2 ^ k).tmod 2 == 1) : Bool) = m.testBit k := by
  have e : ((m : Int) / 2 ^ k) = ((m / 2 ^ k : Nat) : Int) := by simp
  rw [e, Int.tmod_eq_emod_of_nonneg (Int.natCast_nonneg _)]
  rw [Nat.testBit_eq_decide_div_mod_eq]
  rw [Bool.eq_iff_iff]
  simp
  omega
set_option maxHeartbeats 800000 in
theorem rhas_any (m k : Nat) (hk : k < 32) (w : World) :
    Calls Tryz.prog 25 #[.int .u32 (m : Int), .int .i64 (k : Int)] w fun e w' => e = .returned (.bool (m.testBit k)) ∧ w' = w := by
  have h0 : (0 : Int) ≤ (k : Int) := by omega
  have h1 : (k : Int) < 32 := by omega
  have hb := bit_int2 m k
  go_enter Tryz.func25, Tryz.ntmps25
  go_wp2_with fail
  go_ret
  exact ⟨by rw [← hb]; rfl, rfl⟩
theorem pow_u (j : Nat) (hj : j < 32) : (2 : Int) ^ j % 4294967296 = ((2 ^ j : Nat) : Int) := by
  have := At.bitI_in j hj
  unfold At.bitI at this
  rw [if_pos (by omega), Int.toNat_natCast] at this
  exact this
/-- The set of the components of parts, and of those that were changed lately. -/
def seS (p : Prt) (m : Nat) : Nat := if 0 ≤ p.c ∧ p.c ≤ 31 then wi m p.c.toNat else m
def laS (s : Int) (p : Prt) (m : Nat) : Nat := if (0 ≤ p.c ∧ p.c ≤ 31) ∧ s ≤ p.t then wi m p.c.toNat else m
def seM (l : List Prt) : Nat := l.foldl (fun m p => seS p m) 0
def laM (s : Int) (l : List Prt) : Nat := l.foldl (fun m p => laS s p m) 0
theorem seM_next {l : List Prt} {k : Nat} {p : Prt} (h : l[k]? = some p) : seM (l.take (k + 1)) = seS p (seM (l.take k)) := by
  obtain ⟨hl, rfl⟩ := List.getElem?_eq_some_iff.1 h
  unfold seM
  rw [List.take_succ_eq_append_getElem hl, List.foldl_append]; rfl
theorem laM_next (s : Int) {l : List Prt} {k : Nat} {p : Prt} (h : l[k]? = some p) : laM s (l.take (k + 1)) = laS s p (laM s (l.take k)) := by
  obtain ⟨hl, rfl⟩ := List.getElem?_eq_some_iff.1 h
  unfold laM
  rw [List.take_succ_eq_append_getElem hl, List.foldl_append]; rfl
theorem seM_bit (l : List Prt) (i : Nat) (hi : i < 32) : (seM l).testBit i = hasP l (i : Int) := by
  suffices h : ∀ (l : List Prt) (m : Nat), (l.foldl (fun m p => seS p m) m).testBit i = (m.testBit i || hasP l (i : Int)) by
    have := h l 0; simpa [seM] using this
  intro l
  induction l with
  | nil => intro m; simp [hasP]
  | cons p l ih =>
    intro m
    rw [List.foldl_cons, ih]
    unfold seS hasP
    rw [List.any_cons]
    by_cases h : 0 ≤ p.c ∧ p.c ≤ 31
    · rw [if_pos h, wi_bit]
      by_cases e : p.c = (i : Int)
      · rw [show decide (p.c.toNat = i) = true from decide_eq_true (by omega), show (p.c == (i : Int)) = true by simp [e]]; simp
      · rw [show decide (p.c.toNat = i) = false from decide_eq_false (by omega), show (p.c == (i : Int)) = false by simp [e]]; simp
    · rw [if_neg h, show (p.c == (i : Int)) = false by simp; omega]; simp
theorem laM_bit (s : Int) (l : List Prt) (i : Nat) (hi : i < 32) : (laM s l).testBit i = lateP l (i : Int) s := by
  suffices h : ∀ (l : List Prt) (m : Nat), (l.foldl (fun m p => laS s p m) m).testBit i = (m.testBit i || lateP l (i : Int) s) by
    have := h l 0; simpa [laM] using this
  intro l
  induction l with
  | nil => intro m; simp [lateP]
  | cons p l ih =>
    intro m
    rw [List.foldl_cons, ih]
    unfold laS lateP
    rw [List.any_cons]
    by_cases ht : s ≤ p.t
    · by_cases h : 0 ≤ p.c ∧ p.c ≤ 31
      · rw [if_pos ⟨h, ht⟩, wi_bit]
        by_cases e : p.c = (i : Int)
        · rw [show decide (p.c.toNat = i) = true from decide_eq_true (by omega), show (p.c == (i : Int)) = true by simp [e], decide_eq_true ht]; simp
        · rw [show decide (p.c.toNat = i) = false from decide_eq_false (by omega), show (p.c == (i : Int)) = false by simp [e]]; simp
      · rw [if_neg (fun q => h q.1), show (p.c == (i : Int)) = false by simp; omega]; simp
    · rw [if_neg (fun q => ht q.2), decide_eq_false ht]; simp
theorem seS_lt {p : Prt} {m : Nat} (h : m < 4294967296) : seS p m < 4294967296 := by
  unfold seS
  split
  · exact wi_lt (n := 32) h (by omega)
  · exact h
theorem laS_lt {s : Int} {p : Prt} {m : Nat} (h : m < 4294967296) : laS s p m < 4294967296 := by
  unfold laS
  split
  · exact wi_lt (n := 32) h (by omega)
  · exact h
theorem seM_lt (l : List Prt) : seM l < 4294967296 := by
  suffices h : ∀ (l : List Prt) (m : Nat), m < 4294967296 → (l.foldl (fun m p => seS p m) m) < 4294967296 from h l 0 (by decide)
  intro l
  induction l with
  | nil => intro m h; exact h
  | cons p l ih => intro m h; exact ih _ (seS_lt h)
theorem laM_lt (s : Int) (l : List Prt) : laM s l < 4294967296 := by
  suffices h : ∀ (l : List Prt) (m : Nat), m < 4294967296 → (l.foldl (fun m p => laS s p m) m) < 4294967296 from h l 0 (by decide)
  intro l
  induction l with
  | nil => intro m h; exact h
  | cons p l ih => intro m h; exact ih _ (laS_lt h)
/-- One number of a filter against the sets. -/
def badB (a b c m l i : Nat) : Bool := (a.testBit i && !m.testBit i) || (b.testBit i && m.testBit i) || (c.testBit i && !l.testBit i)
theorem means_bad (a b c : Nat) (fr : Int) (l : List Prt) : meansB a b c fr l = true ↔ ∀ i, i < 32 → badB a b c (seM l) (laM (snc fr) l) i = false := by
  rw [meansB_iff]
  constructor
  · intro h i hi
    obtain ⟨h1, h2, h3⟩ := h i hi
    unfold badB
    rw [seM_bit l i hi, laM_bit _ l i hi]
    cases ea : a.testBit i <;> cases eb : b.testBit i <;> cases ec : c.testBit i <;> simp_all
  · intro h i hi
    have := h i hi
    unfold badB at this
    rw [seM_bit l i hi, laM_bit _ l i hi] at this
    simp at this
    obtain ⟨⟨q1, q2⟩, q3⟩ := this
    exact ⟨q1, q2, q3⟩
end Go.Proofs.YtoafpfheopgdkaaGreatDoor.Qu
namespace Go.Proofs.YtoafpfheopgdkaaGreatDoor.Qu
open Go.RowKit Go.Shelf Go.Maps
open Go.Proofs.YtoafpfheopgdkaaGreatDoor.At (St bAl cell_blk blk_seen blk_free an wi wi_bit wi_lt bits_or32 pow32)
open Go.Proofs.YtoafpfheopgdkaaGreatDoor.Rs (Prt PRow Six six_blk)
theorem twelve (a b c m l i : Nat) :
    (a.testBit i = true ∧ m.testBit i = false ∧ Hid (badB a b c m l i = true)) ∨
    (a.testBit i = true ∧ m.testBit i = true ∧ b.testBit i = true ∧ Hid (badB a b c m l i = true)) ∨
    (a.testBit i = true ∧ m.testBit i = true ∧ b.testBit i = false ∧ c.testBit i = false ∧ Hid (badB a b c m l i = false)) ∨
    (a.testBit i = true ∧ m.testBit i = true ∧ b.testBit i = false ∧ c.testBit i = true ∧ l.testBit i = true ∧ Hid (badB a b c m l i = false)) ∨
    (a.testBit i = true ∧ m.testBit i = true ∧ b.testBit i = false ∧ c.testBit i = true ∧ l.testBit i = false ∧ Hid (badB a b c m l i = true)) ∨
    (a.testBit i = false ∧ b.testBit i = true ∧ m.testBit i = true ∧ Hid (badB a b c m l i = true)) ∨
    (a.testBit i = false ∧ b.testBit i = true ∧ m.testBit i = false ∧ c.testBit i = false ∧ Hid (badB a b c m l i = false)) ∨
    (a.testBit i = false ∧ b.testBit i = true ∧ m.testBit i = false ∧ c.testBit i = true ∧ l.testBit i = true ∧ Hid (badB a b c m l i = false)) ∨
    (a.testBit i = false ∧ b.testBit i = true ∧ m.testBit i = false ∧ c.testBit i = true ∧ l.testBit i = false ∧ Hid (badB a b c m l i = true)) ∨
    (a.testBit i = false ∧ b.testBit i = false ∧ c.testBit i = false ∧ Hid (badB a b c m l i = false)) ∨
    (a.testBit i = false ∧ b.testBit i = false ∧ c.testBit i = true ∧ l.testBit i = true ∧ Hid (badB a b c m l i = false)) ∨
    (a.testBit i = false ∧ b.testBit i = false ∧ c.testBit i = true ∧ l.testBit i = false ∧ Hid (badB a b c m l i = true)) := by
  unfold Hid badB
  cases a.testBit i <;> cases b.testBit i <;> cases c.testBit i <;> cases m.testBit i <;> cases l.testBit i <;> simp
set_option maxHeartbeats 6400000 in
set_option maxRecDepth 100000 in
theorem rmeans_any {W : World} {v : Value} {ps : List Prt} (a b c : Nat) (fr : Int) (hfr : J64 fr) (hP : PRow W v ps) (hl : ps.length ≤ 1000) :
    Calls Tryz.prog 8 #[.agg #[.int .u32 (a : Int), .int .u32 (b : Int), .int .u32 (c : Int)], .int .i64 fr, v] W fun e W' => e = .returned (.bool (meansB a b c fr ps)) ∧ Below W.heap.size W W' := by
  obtain ⟨w1, hw1⟩ : ∃ w1, w1 = W.alloc (.cells #[.int .u32 (a : Int), .int .u32 (b : Int), .int .u32 (c : Int)] 26) := ⟨_, rfl⟩
  have b1 : Below W.heap.size W w1 := by rw [hw1]; exact bAl _ _
  have r1 : w1.heap[W.heap.size]? = some (.cells #[.int .u32 (a : Int), .int .u32 (b : Int), .int .u32 (c : Int)] 26 (0, 0)) := by rw [hw1]; exact heap_alloc_new W _
  have k0 : w1.cell? ⟨W.heap.size, 0, none⟩ = some (.int .u32 (a : Int)) := cell_blk r1 rfl
  have k1 : w1.cell? ⟨W.heap.size, 1, none⟩ = some (.int .u32 (b : Int)) := cell_blk r1 rfl
  have k2 : w1.cell? ⟨W.heap.size, 2, none⟩ = some (.int .u32 (c : Int)) := cell_blk r1 rfl
  have HP := hid (hP.later b1)
  have HW1 := hid hw1
  have B1 := hid b1
  obtain ⟨pa, pc, rfl, -⟩ := hP
  have sw := snc_wrap fr hfr
  have MB := hid (means_bad a b c fr ps)
  have hli : (ps.length : Int) ≤ 1000 := by omega
  obtain ⟨s, HS⟩ : ∃ s, Hid (snc fr = s) := ⟨_, hid rfl⟩
  rw [HS.out] at sw MB
  clear hw1 b1 r1 hfr
  go_enter Tryz.func8, Tryz.ntmps8
  go_upto_region 1 with fail
  rw [← HW1.out]
  go_upto_region 2 with fail
  have em : (if fr < -4611686018427387904 then -4611686018427387904 else fr) = max fr (-4611686018427387904) := by split <;> omega
  rw [em] at sw
  try rw [em]
  clear em
  generalize max fr (-4611686018427387904) = mx at sw ⊢
  go_wp2_with fail
  go_loopg [7, 8, 9, 10] ps.length (fun gh m t i _ wr => ∃ k : Nat, k ≤ ps.length ∧ gh = ps.length - k ∧ i = .int .i64 (k : Int) ∧ m = .int .u32 ((seM (ps.take k) : Nat) : Int) ∧ t = .int .u32 ((laM s (ps.take k) : Nat) : Int) ∧ wr = w1)
  case atStart => exact ⟨0, Nat.zero_le _, rfl, rfl, by simp [seM], by simp [laM], rfl⟩
  case round =>
    obtain ⟨k, hk, rfl, rfl, rfl, rfl, hwr⟩ := hrel
    obtain rfl := hwr.symm
    by_cases hlt : k < ps.length
    · have hki : (k : Int) < (ps.length : Int) := by omega
      obtain ⟨p, hp⟩ := at_lt ps k hlt
      obtain ⟨o1, o2, rfl, six⟩ := HP.out.at hp
      have d0 := six.c0
      have d5 := six.c5
      have SN := hid (seM_next hp)
      have LN := hid (laM_next s hp)
      have hm := seM_lt (ps.take k)
      have ht := laM_lt s (ps.take k)
      generalize seM (ps.take k) = m at *
      generalize laM s (ps.take k) = t at *
      clear hp six
      by_cases h0 : p.c < 0
      · have e1 : Hid (seM (ps.take (k + 1)) = m) := by show _ = _; rw [SN.out]; unfold seS; rw [if_neg (by omega)]
        have e2 : Hid (laM s (ps.take (k + 1)) = t) := by show _ = _; rw [LN.out]; unfold laS; rw [if_neg (by omega)]
        clear SN LN
        go_wp2_with fail
        go_roundg (ps.length - (k + 1))
        case measure => omega
        case rel => exact ⟨k + 1, by omega, rfl, by go_num, by rw [e1.out], by rw [e2.out], rfl⟩
      · by_cases h1 : 31 < p.c
        · have e1 : Hid (seM (ps.take (k + 1)) = m) := by show _ = _; rw [SN.out]; unfold seS; rw [if_neg (by omega)]
          have e2 : Hid (laM s (ps.take (k + 1)) = t) := by show _ = _; rw [LN.out]; unfold laS; rw [if_neg (by omega)]
          clear SN LN
          go_wp2_with fail
          go_roundg (ps.length - (k + 1))
          case measure => omega
          case rel => exact ⟨k + 1, by omega, rfl, by go_num, by rw [e1.out], by rw [e2.out], rfl⟩
        · obtain ⟨n, hn⟩ : ∃ n : Nat, p.c = (n : Int) := ⟨p.c.toNat, by omega⟩
          have hn32 : n < 32 := by omega
          have hni : (n : Int) ≤ 31 := by omega
          have hn0 : ¬ (n : Int) < 0 := by omega
          have hn1 : ¬ 31 < (n : Int) := by omega
          have pw := pow_u n hn32
          have q1 := bits_or32 m (2 ^ n) hm (pow32 hn32)
          have q2 := bits_or32 t (2 ^ n) ht (pow32 hn32)
          rw [hn] at d0
          have e1 : Hid (seM (ps.take (k + 1)) = m ||| 2 ^ n) := by show _ = _; rw [SN.out]; unfold seS; rw [if_pos (by omega), hn, Int.toNat_natCast]; rfl
          by_cases hs : s ≤ p.t
          · have e2 : Hid (laM s (ps.take (k + 1)) = t ||| 2 ^ n) := by show _ = _; rw [LN.out]; unfold laS; rw [if_pos ⟨by omega, hs⟩, hn, Int.toNat_natCast]; rfl
            clear SN LN h0 h1 hn hm ht
            generalize (2 ^ n : Nat) = q at *
            go_wp2_with fail
            go_roundg (ps.length - (k + 1))
            case measure => omega
            case rel => exact ⟨k + 1, by omega, rfl, by go_num, by rw [e1.out], by rw [e2.out], rfl⟩
          · have e2 : Hid (laM s (ps.take (k + 1)) = t) := by show _ = _; rw [LN.out]; unfold laS; rw [if_neg fun q => hs q.2]
            clear SN LN h0 h1 hn hm ht q2
            generalize (2 ^ n : Nat) = q at *
            go_wp2_with fail
            go_roundg (ps.length - (k + 1))
            case measure => omega
            case rel => exact ⟨k + 1, by omega, rfl, by go_num, by rw [e1.out], by rw [e2.out], rfl⟩
    · have hki : ¬ ((k : Int) < (ps.length : Int)) := by omega
      rw [List.take_of_length_le (by omega)]
      have RH := hid (fun m k hk w => rhas_any m k hk w)
      generalize seM ps = m at *
      generalize laM s ps = t at *
      clear sw HP
      go_wp2_with fail
      go_loopg [11] 32 (fun gh i wr => ∃ k : Nat, k ≤ 32 ∧ gh = 32 - k ∧ i = .int .i64 (k : Int) ∧ Hid (∀ j, j < k → badB a b c m t j = false) ∧ wr = w1)
      case atStart => exact ⟨0, Nat.zero_le _, rfl, rfl, fun j hj => absurd hj (by omega), rfl⟩
      case round =>
        obtain ⟨i, hi, rfl, rfl, HK, hwr⟩ := hrel
        obtain rfl := hwr.symm
        by_cases hlt2 : i < 32
        · have hii : (i : Int) < 32 := by omega
          rcases twelve a b c m t i with ⟨g1, g2, HB⟩ | ⟨g1, g2, g3, HB⟩ | ⟨g1, g2, g3, g4, HB⟩ | ⟨g1, g2, g3, g4, g5, HB⟩ | ⟨g1, g2, g3, g4, g5, HB⟩ | ⟨g1, g2, g3, HB⟩ | ⟨g1, g2, g3, g4, HB⟩ | ⟨g1, g2, g3, g4, g5, HB⟩ | ⟨g1, g2, g3, g4, g5, HB⟩ | ⟨g1, g2, g3, HB⟩ | ⟨g1, g2, g3, g4, HB⟩ | ⟨g1, g2, g3, g4, HB⟩
          all_goals
            go_wp2_with (go_at_call 25; refine (RH.out _ i hlt2 _).mono ?_; rintro e w5 ⟨rfl, hq5⟩; obtain rfl := hq5.symm)
            first
              | (have R : Hid (meansB a b c fr ps = false) := by
                   show _ = _
                   rw [Bool.eq_false_iff]
                   intro z
                   have := MB.out.1 z i hlt2
                   rw [show badB a b c m t i = true from HB.out] at this
                   cases this
                 go_ret
                 exact ⟨by rw [R.out]; rfl, B1.out⟩)
              | (have K2 : Hid (∀ j, j < i + 1 → badB a b c m t j = false) := fun j hj => by
                   by_cases e : j = i
                   · subst e; exact HB.out
                   · exact HK.out j (by omega)
                 go_roundg (32 - (i + 1))
                 case measure => omega
                 case rel => exact ⟨i + 1, by omega, rfl, by go_num, K2.out, rfl⟩)
        · have hii : ¬ ((i : Int) < 32) := by omega
          have R : Hid (meansB a b c fr ps = true) := MB.out.2 fun j hj => HK.out j (by omega)
          go_wp2_with fail
          go_ret
          exact ⟨by rw [R.out]; rfl, B1.out⟩
end Go.Proofs.YtoafpfheopgdkaaGreatDoor.Qu
