/- An atlas that the statements ask: what a call leaves, plainly. -/
import Derived.Test.YtmiaepjlifceeaaDoorAj
namespace Go.Proofs.YtmiaepjlifceeaaDoor
open Go.RowKit Go.Shelf Go.Maps
/-- An atlas that was made behind w. -/
structure Kep (w : World) (B rb : Nat) (s : AS) (S : Nat → Prop) (wr : World) : Prop where
  atl : Atl B wr rb s S
  bel : Below w.heap.size w wr
  base : w.heap.size ≤ B
/-- A node more or none: x is the node of m. -/
structure Mv (s s' : AS) (x m : Nat) : Prop where
  n : s'.n = s.n
  old : ∀ {i a : Nat}, s.l[i]? = some a → s'.l[i]? = some a
  new : s'.l[x]? = some m
  len : s'.l.length ≤ s.l.length + 1
theorem mv_put (s : AS) (m : Nat) : Mv s (s.put m) (s.l.idxOf m) m :=
  ⟨rfl, fun {i a} h => by
    have := (List.getElem?_eq_some_iff.1 h).1
    show (add s.l m)[i]? = _
    rw [add_old m this, h], add_get s.l m, (add_len s.l m).2⟩
theorem Kep.later {w : World} {B rb : Nat} {s : AS} {S : Nat → Prop} {wr w' : World} (h : Kep w B rb s S wr) (hb : Below wr.heap.size wr w') : Kep w B rb s S w' := ⟨h.atl.later hb, h.bel.trans (hb.mono h.bel.size), h.base⟩
theorem Kep.one {w : World} {B rb : Nat} {s : AS} {S : Nat → Prop} {wr : World} (h : Kep w B rb s S wr) {i j m : Nat} (hi : s.l[i]? = some m) (hj : s.l[j]? = some m) : i = j :=
  (idx_of h.atl.ok.nd hi).symm.trans (idx_of h.atl.ok.nd hj)
/-- What a call that may make a node leaves. -/
def KPost (w : World) (B rb : Nat) (s : AS) (S : Nat → Prop) (wr : World) (m : Nat) (e : Ending) (W' : World) : Prop :=
  ∃ (x : Nat) (s' : AS) (S' : Nat → Prop), e = .returned (.tuple #[.int .i64 (x : Int), .nilIface]) ∧ Hid (Mv s s' x m) ∧ Hid (Kep w B rb s' S' W') ∧ Hid (St S wr W' ∧ ∀ x, S' x → S x ∨ wr.heap.size ≤ x)
section
variable {w : World} {B rb : Nat} {s : AS} {S : Nat → Prop} {wr : World}
theorem kpost {m f : Nat} {args : Array Value} (h : Kep w B rb s S wr) (hc : Calls Tryd.prog f args wr fun e W' => e = .returned (.tuple #[.int .i64 (s.l.idxOf m : Int), .nilIface]) ∧ Goes B rb (s.put m) S wr W') : Calls Tryd.prog f args wr (KPost w B rb s S wr m) := by
  refine hc.mono ?_
  rintro e W' ⟨rfl, S', a, st, f⟩
  exact ⟨_, _, S', rfl, mv_put s m, ⟨a, h.bel.trans ((h.atl.below st).mono h.base), h.base⟩, st, f⟩
theorem kep_at (h : Kep w B rb s S wr) (m : Nat) (hm : m < 2 ^ s.n) : Calls Tryd.prog 12 #[.pointer (some ⟨rb, 0, none⟩), .int .u32 (m : Int)] wr (KPost w B rb s S wr m) := kpost h (at_ok h.atl m hm)
theorem kep_with (h : Kep w B rb s S wr) {i m : Nat} (hi : s.l[i]? = some m) (c : Nat) (hc : c < s.n) : Calls Tryd.prog 24 #[.pointer (some ⟨rb, 0, none⟩), .int .i64 (i : Int), .int .i64 (c : Int)] wr (KPost w B rb s S wr (wi m c)) := kpost h (awith_ok h.atl i m hi c hc)
theorem kep_without (h : Kep w B rb s S wr) {i m : Nat} (hi : s.l[i]? = some m) (c : Nat) (hc : c < s.n) : Calls Tryd.prog 25 #[.pointer (some ⟨rb, 0, none⟩), .int .i64 (i : Int), .int .i64 (c : Int)] wr (KPost w B rb s S wr (wo m c)) := kpost h (awithout_ok h.atl i m hi c hc)
end
theorem kep_new {w W : World} (hb : Below w.heap.size w W) :
    Calls Tryd.prog 9 #[.int .i64 16] W fun e W' => ∃ rb S, e = .returned (.tuple #[.pointer (some ⟨rb, 0, none⟩), .nilIface]) ∧ Hid (Kep w w.heap.size rb ⟨16, [0]⟩ S W') := by
  have : Calls Tryd.prog 9 #[.int .i64 16] W fun e W' => ∃ rb S, e = .returned (.tuple #[.pointer (some ⟨rb, 0, none⟩), .nilIface]) ∧ Atl W.heap.size W' rb ⟨16, [0]⟩ S ∧ Below W.heap.size W W' := new_ok W 16 (Nat.le_refl _)
  refine this.mono ?_
  rintro e W' ⟨rb, S, rfl, a, b⟩
  exact ⟨rb, S, rfl, a.lower hb.size, hb.trans (b.mono hb.size), Nat.le_refl _⟩
theorem u64_nat (m : Int) : ∃ q : Nat, IntKind.u64.wrap m = (q : Int) := by
  have h : 0 ≤ IntKind.u64.wrap m := by
    show 0 ≤ m % _
    exact Int.emod_nonneg _ (by decide)
  exact Int.eq_ofNat_of_zero_le h
theorem rem_at (m : Int) (n : Nat) (h0 : 0 < n) : ∃ (u : Int) (k : Nat), k < n ∧ IntKind.u64.wrap m = u ∧ u.tmod (n : Int) = (k : Int) := by
  obtain ⟨q, hq⟩ := u64_nat m
  exact ⟨_, q % n, Nat.mod_lt _ h0, hq, by rw [← Int.ofNat_tmod]⟩
theorem and16 (m : Nat) (h : m < 4294967296) : bits .and .u32 (m : Int) 65535 = ((m % 65536 : Nat) : Int) := by
  have := bits_and32 m 65535 h (by decide)
  rw [show (65535 : Nat) = 2 ^ 16 - 1 from rfl, Nat.and_two_pow_sub_one_eq_mod] at this
  exact this
theorem wi_comm (m c d : Nat) : wi (wi m c) d = wi (wi m d) c := by unfold wi; rw [Nat.or_assoc, Nat.or_comm (2 ^ c), ← Nat.or_assoc]
theorem wi_twice (m c : Nat) : wi (wi m c) c = wi m c := by unfold wi; rw [Nat.or_assoc, Nat.or_self]
theorem wo_wi (m c : Nat) (hm : m < 65536) (hc : c < 16) : wo (wi m c) c = wo m c := by
  have h2 : wi m c < 65536 := wi_lt (n := 16) hm hc
  refine Nat.eq_of_testBit_eq fun i => ?_
  rw [wo_bit _ _ _ (by omega) (by omega), wo_bit _ _ _ (by omega) (by omega), wi_bit]
  by_cases e : c = i <;> simp [e]
theorem wi_has {m c : Nat} (h : m.testBit c = true) : wi m c = m := by
  refine Nat.eq_of_testBit_eq fun i => ?_
  rw [wi_bit]
  by_cases e : c = i
  · subst e; simp [h]
  · simp [e]
theorem wo_hasnt {m c : Nat} (hm : m < 65536) (hc : c < 16) (h : m.testBit c = false) : wo m c = m := by
  refine Nat.eq_of_testBit_eq fun i => ?_
  rw [wo_bit _ _ _ (by omega) (by omega)]
  by_cases e : c = i
  · subst e; simp [h]
  · simp [e]
theorem tmod_one (m k : Nat) : (((m : Int) / 2 ^ k).tmod 2 == 1) = m.testBit k := by
  have e1 : (m : Int) / 2 ^ k = ((m / 2 ^ k : Nat) : Int) := by simp
  rw [e1, show (2 : Int) = ((2 : Nat) : Int) from rfl, ← Int.ofNat_tmod, Nat.testBit_eq_decide_div_mod_eq, Bool.eq_iff_iff]
  simp
  omega
theorem tmod_zero (m k : Nat) : (((m : Int) / 2 ^ k).tmod 2 == 0) = !m.testBit k := by
  have e1 : (m : Int) / 2 ^ k = ((m / 2 ^ k : Nat) : Int) := by simp
  rw [e1, show (2 : Int) = ((2 : Nat) : Int) from rfl, ← Int.ofNat_tmod, Nat.testBit_eq_decide_div_mod_eq, Bool.eq_iff_iff]
  simp
  omega
theorem add_at2 (g o j : Nat) : (⟨g, o, none⟩ : Addr).add j = ⟨g, o + j, none⟩ := by unfold Addr.add; split <;> simp_all
/-- A row of sets that came in. -/
def MRow (W : World) (v : Value) (ts : List Nat) : Prop := (∀ x ∈ ts, x < 4294967296) ∧ ∃ a c, v = .slice a ts.length c ∧ (ts = [] ∨ ∃ b o, a = some ⟨b, o, none⟩ ∧ ∀ (j : Nat) x, ts[j]? = some x → W.cell? ⟨b, o + j, none⟩ = some (.int .u32 (x : Int)))
end Go.Proofs.YtmiaepjlifceeaaDoor
