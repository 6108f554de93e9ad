/- Leaves of Check are short; a name's place, both ways; the walk of GoodsExact's beginning. -/
import Derived.Test.YtbfjijiakkopeaaDoorGsHe
namespace Go.Proofs.YtbfjijiakkopeaaDoor.Sc
open Go.RowKit Go.Shelf
def LOk (p : List ByteArray × Nat) : Prop := (joinB p.1).size ≤ 100000 ∧ p.1.length ≤ 1000
theorem ok_one (l : ByteArray) (k : Nat) (h : l.size ≤ 100) : LOk ([l], k) := ⟨by show (joinB [l]).size ≤ _; rw [joinB_one]; omega, by simp⟩
theorem ok_three (l p : ByteArray) (i k : Nat) (hi : i < 100) (hl : l.size ≤ 100) (hp : p.size ≤ 100) : LOk ([l, dig i, p], k) := by
  refine ⟨?_, by simp⟩
  show (joinB [l, dig i, p]).size ≤ _
  have e : (⟨#[47]⟩ : ByteArray).size = 1 := rfl
  have := dig_size i hi
  rw [joinB_more _ _ (by simp), joinB_more _ _ (by simp), joinB_one, ByteArray.size_append, ByteArray.size_append, ByteArray.size_append, ByteArray.size_append, e]
  omega
theorem at3_ok (l p : ByteArray) (i : Nat) (ns : List Nat) (hi : i < 100) (hl : l.size ≤ 100) (hp : p.size ≤ 100) : ∀ q ∈ at3 l i p ns, LOk q := by
  intro q hq
  obtain ⟨k, -, rfl⟩ := List.mem_map.1 hq
  exact ok_three l p i k hi hl hp
theorem manyL_ok (l : ByteArray) (m n : Nat) (hl : l.size ≤ 100) : ∀ q ∈ manyL l m n, LOk q := by
  intro q hq
  unfold manyL at hq
  split at hq
  · simp at hq; subst hq; exact ok_one l 4 hl
  · simp at hq
theorem compL_ok (cs : List Cmp) : ∀ k, k ≤ 100 → ∀ q ∈ compL cs k, LOk q
  | 0, _ => by simp [compL]
  | k + 1, h => by
    intro q hq
    have ih := compL_ok cs k (by omega)
    rcases List.mem_append.1 hq with hq | hq
    · exact ih q hq
    · cases hc : cs[k]? with
      | none => simp [hc] at hq
      | some c =>
        simp only [hc, leafC, List.mem_append] at hq
        rcases hq with hq | hq | hq
        · exact at3_ok bComps bName k _ (by omega) (by decide) (by decide) q hq
        · exact at3_ok bComps bWidth k _ (by omega) (by decide) (by decide) q hq
        · exact at3_ok bComps bDefault k _ (by omega) (by decide) (by decide) q hq
theorem resL_ok (cs : List Cmp) (rs : List Rsc) : ∀ k, k ≤ 100 → ∀ q ∈ resL cs rs k, LOk q
  | 0, _ => by simp [resL]
  | k + 1, h => by
    intro q hq
    have ih := resL_ok cs rs k (by omega)
    rcases List.mem_append.1 hq with hq | hq
    · exact ih q hq
    · cases hc : rs[k]? with
      | none => simp [hc] at hq
      | some c =>
        simp only [hc] at hq
        exact at3_ok bRes bName k _ (by omega) (by decide) (by decide) q hq
theorem checkL_ok (cs : List Cmp) (rs : List Rsc) (hc : cs.length ≤ 40) (hr : rs.length ≤ 40) : (∀ q ∈ checkL cs rs, LOk q) ∧ (checkL cs rs).length ≤ 200 := by
  constructor
  · intro q hq
    simp only [checkL, List.mem_append] at hq
    rcases hq with (hq | hq) | (hq | hq)
    · exact manyL_ok bComps _ _ (by decide) q hq
    · exact compL_ok cs _ (by omega) q hq
    · exact manyL_ok bRes _ _ (by decide) q hq
    · exact resL_ok cs rs _ (by omega) q hq
  · simp only [checkL, List.length_append]
    have := manyL_len bComps 16 cs.length
    have := compL_len cs cs.length
    have := manyL_len bRes 8 rs.length
    have := resL_len cs rs rs.length
    omega
/-- What New answers. -/
def NewR (Ad : Nat → Addr) (cs : List Cmp) (n f z0 z1 z2 z3 z4 z5 : Int) (fv : Value) : Prop :=
  ((n < 0 ∨ (cs.length : Int) ≤ n) ∧ z0 = 0 ∧ z1 = 0 ∧ z2 = 0 ∧ z3 = 0 ∧ z4 = 0 ∧ z5 = 0 ∧ fv = .iface 147 (.pointer (some (Ad 1)))) ∨
  (∃ (k : Nat) (x : Cmp), n = (k : Int) ∧ cs[k]? = some x ∧ z0 = (k : Int) ∧ z1 = x.d0 ∧ z2 = x.d1 ∧ z3 = x.d2 ∧ z4 = x.d3 ∧ z5 = f ∧ fv = .nilIface)
end Go.Proofs.YtbfjijiakkopeaaDoor.Sc
namespace Go.Proofs.YtbfjijiakkopeaaDoor.Gs
open Go.RowKit Go.Shelf Go.Maps
open Go.Proofs.YtbfjijiakkopeaaDoor.Sc (Cmp Rsc CmpRow RscRow SmallC SmallQ checkL memB eqS firstI foundV)
theorem eqS_bytes (x s : ByteArray) : eqS x s = (x.data.toList == s.data.toList) := by
  unfold eqS
  rw [Lib.toList_data, Lib.toList_data]
theorem firstI_pl (s : ByteArray) : ∀ (l : List ByteArray) (k : Nat), firstI s l k = if memB l s then ((k + l.findIdx (fun x => x.data.toList == s.data.toList) : Nat) : Int) else -1
  | [], k => by simp [firstI, memB]
  | x :: l, k => by
    have ih := firstI_pl s l (k + 1)
    unfold firstI
    rw [eqS_bytes]
    cases q : (x.data.toList == s.data.toList) with
    | true =>
      have e : memB (x :: l) s = true := by unfold memB; rw [List.any_cons, q]; rfl
      rw [e, List.findIdx_cons, q]
      simp
    | false =>
      have e : memB (x :: l) s = memB l s := by unfold memB; rw [List.any_cons, q, Bool.false_or]
      rw [e, List.findIdx_cons, q]
      simp only [Bool.false_eq_true, if_false, cond_false]
      rw [ih]
      split
      · congr 1; omega
      · rfl
theorem found_pl (s : ByteArray) (l : List ByteArray) : foundV (firstI s l 0) = .tuple #[.int .i64 (pl l s), .bool (memB l s)] := by
  rw [firstI_pl]
  unfold foundV pl
  cases memB l s with
  | false => simp
  | true =>
    simp only [if_true, Nat.zero_add]
    rw [if_neg (by omega)]
end Go.Proofs.YtbfjijiakkopeaaDoor.Gs
