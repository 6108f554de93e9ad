/- Sets of components as numbers; the nodes of an atlas, plainly; the map of its nodes. -/
import Derived.Test.YtfabmleiibnhdaaDoorKp
import Derived.Maps.OwnSet
import Derived.Laws.CopyRow
import Derived.Laws.BitsAllLaws
namespace Go.Proofs.YtfabmleiibnhdaaDoor.At
open Go.RowKit Go.Shelf Go.Maps
theorem Tryd.laidOut : laidOutB Tryd.prog = true := by kernel_rfl
theorem keyed33 : Keyed Tryd.prog 27 := int_keyed Tryd.underlying27
theorem zero3 (w : World) : (zeroValue 3).run Tryd.prog w = .ok (.int .i64 0) w := by kernel_rfl
def I64 (i : Int) : Prop := (Lit.int .i64 i).wf = true
theorem I64_mid {n : Int} (h0 : -1000000 ≤ n) (h1 : n ≤ 1000000) : I64 n := by
  unfold I64 Lit.wf
  simp [IntKind.min, IntKind.max, IntKind.signed, IntKind.bits]
  omega
theorem U32_wf {m : Nat} (h : m < 4294967296) : (Lit.int .u32 (m : Int)).wf = true := by
  unfold Lit.wf
  simp [IntKind.min, IntKind.max, IntKind.signed, IntKind.bits]
  omega
theorem key_u32 (m : Nat) (h : m < 4294967296) : keyOf Tryd.prog 27 (.int .u32 (m : Int)) = some (.int .u32 (m : Int)) := keyOf_int_mk Tryd.underlying27 (U32_wf h)
def gM (m : Nat) : Value := .int .u32 (m : Int)
def gI (n : Nat) : Value := .int .i64 (n : Int)
/-- The first set without the second. -/
def an (a b : Nat) : Nat := a &&& (4294967295 - b)
theorem an_bit (a b i : Nat) (ha : a < 4294967296) (hb : b < 4294967296) : (an a b).testBit i = (a.testBit i && !b.testBit i) := by
  unfold an
  rw [Nat.testBit_and, show 4294967295 - b = 2 ^ 32 - (b + 1) by omega, Nat.testBit_two_pow_sub_succ (by omega)]
  by_cases h : i < 32
  · simp [h]
  · have : a.testBit i = false := Nat.testBit_lt_two_pow (Nat.lt_of_lt_of_le ha (show 2 ^ 32 ≤ 2 ^ i from Nat.pow_le_pow_right (by decide) (by omega)))
    simp [this]
theorem an_le (a b : Nat) : an a b ≤ a := Nat.and_le_left
theorem pow_le {n : Nat} (h : n ≤ 16) : 2 ^ n ≤ 65536 := Nat.pow_le_pow_right (by decide) h
theorem pow32 {c : Nat} (h : c < 32) : 2 ^ c < 4294967296 := Nat.lt_of_lt_of_le (Nat.pow_lt_pow_right (by decide) h) (by decide)
theorem bit_out {a n i : Nat} (h : a < 2 ^ n) (hi : n ≤ i) : a.testBit i = false := Nat.testBit_lt_two_pow (Nat.lt_of_lt_of_le h (Nat.pow_le_pow_right (by decide) hi))
theorem lt_of_bits {a n : Nat} (h : ∀ i, n ≤ i → a.testBit i = false) : a < 2 ^ n := Nat.lt_pow_two_of_testBit a h
theorem bits_or32 (a b : Nat) (ha : a < 4294967296) (hb : b < 4294967296) : bits .or .u32 (a : Int) (b : Int) = ((a ||| b : Nat) : Int) := u32_or_nat a b ha hb
theorem bits_and32 (a b : Nat) (ha : a < 4294967296) (hb : b < 4294967296) : bits .and .u32 (a : Int) (b : Int) = ((a &&& b : Nat) : Int) := u32_and_nat a b ha hb
theorem bits_xor32 (a b : Nat) (ha : a < 4294967296) (hb : b < 4294967296) : bits .xor .u32 (a : Int) (b : Int) = ((a ^^^ b : Nat) : Int) := u32_xor_nat a b ha hb
theorem bits_an32 (a b : Nat) (ha : a < 4294967296) (hb : b < 4294967296) : bits .andNot .u32 (a : Int) (b : Int) = ((an a b : Nat) : Int) := u32_andNot_nat a b ha hb
/-- A set with a component more; with one less. -/
def wi (m c : Nat) : Nat := m ||| 2 ^ c
def wo (m c : Nat) : Nat := an m (2 ^ c)
theorem wi_bit (m c i : Nat) : (wi m c).testBit i = (m.testBit i || decide (c = i)) := by
  unfold wi; rw [Nat.testBit_or, Nat.testBit_two_pow]
theorem wo_bit (m c i : Nat) (hm : m < 4294967296) (hc : c < 32) : (wo m c).testBit i = (m.testBit i && !decide (c = i)) := by
  unfold wo; rw [an_bit _ _ _ hm (pow32 hc), Nat.testBit_two_pow]
theorem wi_lt {m c n : Nat} (hm : m < 2 ^ n) (hc : c < n) : wi m c < 2 ^ n := Nat.or_lt_two_pow hm (Nat.pow_lt_pow_right (by decide) hc)
theorem wo_lt {m c n : Nat} (hm : m < 2 ^ n) : wo m c < 2 ^ n := Nat.lt_of_le_of_lt (an_le _ _) hm
theorem within_iff {m n : Nat} (hm : m < 4294967296) (hn : n ≤ 16) : an m (2 ^ n - 1) = 0 ↔ m < 2 ^ n := by
  have hp := pow_le hn
  have hp0 : 0 < 2 ^ n := Nat.two_pow_pos n
  constructor
  · intro h
    refine lt_of_bits fun i hi => ?_
    have := an_bit m (2 ^ n - 1) i hm (by omega)
    rw [h, Nat.zero_testBit, Nat.testBit_two_pow_sub_one, decide_eq_false (by omega)] at this
    simpa using this.symm
  · intro h
    refine Nat.eq_of_testBit_eq fun i => ?_
    rw [an_bit m (2 ^ n - 1) i hm (by omega), Nat.zero_testBit, Nat.testBit_two_pow_sub_one]
    by_cases hi : i < n
    · simp [hi]
    · rw [bit_out h (by omega)]; rfl
/-- A node for a set: where it is there is none made. -/
def add (l : List Nat) (m : Nat) : List Nat := if m ∈ l then l else l ++ [m]
theorem idx_add (l : List Nat) (m : Nat) : (add l m).idxOf m = l.idxOf m := by
  unfold add
  split
  · rfl
  · rename_i h
    rw [List.idxOf_append, if_neg h, List.idxOf_eq_length h]
    simp
theorem idx_get {l : List Nat} {m : Nat} (h : m ∈ l) : l[l.idxOf m]? = some m := by
  have hl := List.idxOf_lt_length_of_mem h
  rw [List.getElem?_eq_getElem hl]
  simp
theorem add_mem (l : List Nat) (m : Nat) : m ∈ add l m := by unfold add; split <;> simp_all
theorem add_get (l : List Nat) (m : Nat) : (add l m)[l.idxOf m]? = some m := by
  rw [← idx_add]; exact idx_get (add_mem l m)
theorem mem_add {l : List Nat} {m x : Nat} : x ∈ add l m ↔ x ∈ l ∨ x = m := by
  unfold add
  split
  · rename_i h
    exact ⟨.inl, fun q => q.elim id fun e => e ▸ h⟩
  · simp
theorem add_nodup {l : List Nat} (h : l.Nodup) (m : Nat) : (add l m).Nodup := by
  unfold add
  split
  · exact h
  · rename_i hm
    rw [List.nodup_append]
    exact ⟨h, by simp, fun a ha b hb e => hm (by simp at hb; subst hb; exact e ▸ ha)⟩
theorem add_old {l : List Nat} {i : Nat} (m : Nat) (h : i < l.length) : (add l m)[i]? = l[i]? := by
  unfold add
  split
  · rfl
  · rw [List.getElem?_append_left h]
theorem add_len (l : List Nat) (m : Nat) : l.length ≤ (add l m).length ∧ (add l m).length ≤ l.length + 1 := by
  unfold add; split <;> simp
theorem add_pre (l : List Nat) (m : Nat) : l <+: add l m := by
  unfold add
  split
  · exact List.prefix_refl l
  · exact List.prefix_append l [m]
theorem idx_of {l : List Nat} (h : l.Nodup) {i m : Nat} (hi : l[i]? = some m) : l.idxOf m = i := by
  have hm : m ∈ l := List.mem_of_getElem? hi
  have hl := List.idxOf_lt_length_of_mem hm
  obtain ⟨h1, h2⟩ := List.getElem?_eq_some_iff.1 hi
  have e := idx_get hm
  rw [List.getElem?_eq_getElem hl] at e
  exact (List.getElem_inj h).1 ((Option.some.inj e).trans h2.symm)
theorem idx_le (l : List Nat) (m : Nat) : l.idxOf m ≤ l.length := List.idxOf_le_length
theorem idx_lt_add (l : List Nat) (m : Nat) : l.idxOf m < (add l m).length := by
  rw [← idx_add]; exact List.idxOf_lt_length_of_mem (add_mem l m)
theorem few_of {l : List Nat} {N : Nat} (h : l.Nodup) (hl : ∀ x ∈ l, x < N) : l.length ≤ N := by
  have := h.length_le_of_subset (l₂ := List.range N) fun x hx => List.mem_range.2 (hl x hx)
  simpa using this
/-- What the map of the nodes says. -/
def Holds (D : DataW Unit) (l : List Nat) : Prop :=
  (∀ m : Nat, m < 4294967296 → Maps.has D (.int .u32 (m : Int)) = decide (m ∈ l) ∧ D.atKey (.int .u32 (m : Int)) (.lit (.int .i64 0)) = .lit (.int .i64 (if m ∈ l then (l.idxOf m : Int) else 0))) ∧ Maps.size D = l.length
theorem isKeyU (i : Int) : WideAt.IsKeyLit (.int .u32 i) := trivial
theorem key_ne {i j : Nat} (h : i ≠ j) : (Lit.int .u32 (i : Int)) ≠ .int .u32 (j : Int) := fun e => by
  have : (i : Int) = (j : Int) := by simpa using e
  exact h (by exact_mod_cast this)
theorem Holds.snoc {D : DataW Unit} {l : List Nat} (hD : Tidy D) (h : Holds D l) {m : Nat} (hm : m ∉ l) (hm32 : m < 4294967296) : Holds (D.put (.int .u32 (m : Int)) (.lit (.int .i64 (l.length : Int)))) (l ++ [m]) := by
  refine ⟨fun i hi => ?_, ?_⟩
  · by_cases e : i = m
    · subst e
      rw [Maps.has_put_same hD.isMap (isKeyU _) _, Maps.atKey_put_same hD.isMap (isKeyU _) _ _, if_pos (by simp), List.idxOf_append, if_neg hm]
      simp
    · rw [Maps.has_put_other (key_ne e), Maps.atKey_put_other (key_ne e), (h.1 i hi).1, (h.1 i hi).2]
      have : i ∈ l ++ [m] ↔ i ∈ l := by simp [e]
      by_cases hl : i ∈ l
      · rw [if_pos hl, if_pos (this.2 hl), List.idxOf_append, if_pos hl]
        simp [hl]
      · rw [if_neg hl, if_neg (fun q => hl (this.1 q))]
        simp [hl, e]
  · rw [Maps.size_put hD, (h.1 m hm32).1, h.2]
    simp [hm]
/-- A map bears no more than what it reads as. -/
theorem own_size {W : World} {mb n : Nat} {D : DataW Unit} (h : W.ownsMap Tryd.prog 27 (plainElem Tryd.prog 3) mb n D) {m : Nat} (hm : Maps.size D = m) : W.ownsMap Tryd.prog 27 (plainElem Tryd.prog 3) mb m D := by
  obtain ⟨es, clock, hb, F, _, rfl⟩ := h
  refine ⟨es, clock, hb, F, ?_, rfl⟩
  rw [← hm]
  simp [Maps.size, length_sorted]
end Go.Proofs.YtfabmleiibnhdaaDoor.At
