/- The document's Means. -/
import Derived.Test.YtfabmleiibnhdaaDoorQuQe
namespace Go.Proofs.YtfabmleiibnhdaaDoor.Qu
open Go.RowKit Go.Shelf Go.Maps
open Go.Proofs.YtfabmleiibnhdaaDoor.At (St bAl cell_blk blk_seen blk_free an wi wi_bit wi_lt bits_or32 pow32)
open Go.Proofs.YtfabmleiibnhdaaDoor.Rs (Prt PRow Six six_blk)
theorem bit_int2 (m k : Nat) : ((((m : Int) / 2 ^ k).tmod 2 == 1) : Bool) = m.testBit k := by
  have e : ((m : Int) / 2 ^ k) = ((m / 2 ^ k : Nat) : Int) := by simp
  rw [e, Int.tmod_eq_emod_of_nonneg (Int.natCast_nonneg _)]
  rw [Nat.testBit_eq_decide_div_mod_eq]
  rw [Bool.eq_iff_iff]
  simp
  omega
set_option maxHeartbeats 800000 in
theorem rhas_any (m k : Nat) (hk : k < 32) (w : World) :
    Calls Tryd.prog 25 #[.int .u32 (m : Int), .int .i64 (k : Int)] w fun e w' => e = .returned (.bool (m.testBit k)) ∧ w' = w := by
  have h0 : (0 : Int) ≤ (k : Int) := by omega
  have h1 : (k : Int) < 32 := by omega
  have hb := bit_int2 m k
  go_enter Tryd.func25, Tryd.ntmps25
  go_wp2_with fail
  go_ret
  exact ⟨by rw [← hb]; rfl, rfl⟩
theorem pow_u (j : Nat) (hj : j < 32) : (2 : Int) ^ j % 4294967296 = ((2 ^ j : Nat) : Int) := by
  have := At.bitI_in j hj
  unfold At.bitI at this
  rw [if_pos (by omega), Int.toNat_natCast] at this
  exact this
/-- The set of the components of parts, and of those that were changed lately. -/
def seS (p : Prt) (m : Nat) : Nat := if 0 ≤ p.c ∧ p.c ≤ 31 then wi m p.c.toNat else m
def laS (s : Int) (p : Prt) (m : Nat) : Nat := if (0 ≤ p.c ∧ p.c ≤ 31) ∧ s ≤ p.t then wi m p.c.toNat else m
def seM (l : List Prt) : Nat := l.foldl (fun m p => seS p m) 0
def laM (s : Int) (l : List Prt) : Nat := l.foldl (fun m p => laS s p m) 0
theorem seM_next {l : List Prt} {k : Nat} {p : Prt} (h : l[k]? = some p) : seM (l.take (k + 1)) = seS p (seM (l.take k)) := by
  obtain ⟨hl, rfl⟩ := List.getElem?_eq_some_iff.1 h
  unfold seM
  rw [List.take_succ_eq_append_getElem hl, List.foldl_append]; rfl
theorem laM_next (s : Int) {l : List Prt} {k : Nat} {p : Prt} (h : l[k]? = some p) : laM s (l.take (k + 1)) = laS s p (laM s (l.take k)) := by
  obtain ⟨hl, rfl⟩ := List.getElem?_eq_some_iff.1 h
  unfold laM
  rw [List.take_succ_eq_append_getElem hl, List.foldl_append]; rfl
theorem seM_bit (l : List Prt) (i : Nat) (hi : i < 32) : (seM l).testBit i = hasP l (i : Int) := by
  suffices h : ∀ (l : List Prt) (m : Nat), (l.foldl (fun m p => seS p m) m).testBit i = (m.testBit i || hasP l (i : Int)) by
    have := h l 0; simpa [seM] using this
  intro l
  induction l with
  | nil => intro m; simp [hasP]
  | cons p l ih =>
    intro m
    rw [List.foldl_cons, ih]
    unfold seS hasP
    rw [List.any_cons]
    by_cases h : 0 ≤ p.c ∧ p.c ≤ 31
    · rw [if_pos h, wi_bit]
      by_cases e : p.c = (i : Int)
      · rw [show decide (p.c.toNat = i) = true from decide_eq_true (by omega), show (p.c == (i : Int)) = true by simp [e]]; simp
      · rw [show decide (p.c.toNat = i) = false from decide_eq_false (by omega), show (p.c == (i : Int)) = false by simp [e]]; simp
    · rw [if_neg h, show (p.c == (i : Int)) = false by simp; omega]; simp
theorem laM_bit (s : Int) (l : List Prt) (i : Nat) (hi : i < 32) : (laM s l).testBit i = lateP l (i : Int) s := by
  suffices h : ∀ (l : List Prt) (m : Nat), (l.foldl (fun m p => laS s p m) m).testBit i = (m.testBit i || lateP l (i : Int) s) by
    have := h l 0; simpa [laM] using this
  intro l
  induction l with
  | nil => intro m; simp [lateP]
  | cons p l ih =>
    intro m
    rw [List.foldl_cons, ih]
    unfold laS lateP
    rw [List.any_cons]
    by_cases ht : s ≤ p.t
    · by_cases h : 0 ≤ p.c ∧ p.c ≤ 31
      · rw [if_pos ⟨h, ht⟩, wi_bit]
        by_cases e : p.c = (i : Int)
        · rw [show decide (p.c.toNat = i) = true from decide_eq_true (by omega), show (p.c == (i : Int)) = true by simp [e], decide_eq_true ht]; simp
        · rw [show decide (p.c.toNat = i) = false from decide_eq_false (by omega), show (p.c == (i : Int)) = false by simp [e]]; simp
      · rw [if_neg (fun q => h q.1), show (p.c == (i : Int)) = false by simp; omega]; simp
    · rw [if_neg (fun q => ht q.2), decide_eq_false ht]; simp
theorem seS_lt {p : Prt} {m : Nat} (h : m < 4294967296) : seS p m < 4294967296 := by
  unfold seS
  split
  · exact wi_lt (n := 32) h (by omega)
  · exact h
theorem laS_lt {s : Int} {p : Prt} {m : Nat} (h : m < 4294967296) : laS s p m < 4294967296 := by
  unfold laS
  split
  · exact wi_lt (n := 32) h (by omega)
  · exact h
theorem seM_lt (l : List Prt) : seM l < 4294967296 := by
  suffices h : ∀ (l : List Prt) (m : Nat), m < 4294967296 → (l.foldl (fun m p => seS p m) m) < 4294967296 from h l 0 (by decide)
  intro l
  induction l with
  | nil => intro m h; exact h
  | cons p l ih => intro m h; exact ih _ (seS_lt h)
theorem laM_lt (s : Int) (l : List Prt) : laM s l < 4294967296 := by
  suffices h : ∀ (l : List Prt) (m : Nat), m < 4294967296 → (l.foldl (fun m p => laS s p m) m) < 4294967296 from h l 0 (by decide)
  intro l
  induction l with
  | nil => intro m h; exact h
  | cons p l ih => intro m h; exact ih _ (laS_lt h)
/-- One number of a filter against the sets. -/
def badB (a b c m l i : Nat) : Bool := (a.testBit i && !m.testBit i) || (b.testBit i && m.testBit i) || (c.testBit i && !l.testBit i)
theorem means_bad (a b c : Nat) (fr : Int) (l : List Prt) : meansB a b c fr l = true ↔ ∀ i, i < 32 → badB a b c (seM l) (laM (snc fr) l) i = false := by
  rw [meansB_iff]
  constructor
  · intro h i hi
    obtain ⟨h1, h2, h3⟩ := h i hi
    unfold badB
    rw [seM_bit l i hi, laM_bit _ l i hi]
    cases ea : a.testBit i <;> cases eb : b.testBit i <;> cases ec : c.testBit i <;> simp_all
  · intro h i hi
    have := h i hi
    unfold badB at this
    rw [seM_bit l i hi, laM_bit _ l i hi] at this
    simp at this
    obtain ⟨⟨q1, q2⟩, q3⟩ := this
    exact ⟨q1, q2, q3⟩
end Go.Proofs.YtfabmleiibnhdaaDoor.Qu
