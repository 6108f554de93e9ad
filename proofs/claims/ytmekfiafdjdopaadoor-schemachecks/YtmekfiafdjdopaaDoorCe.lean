/- SchemaChecks: what the walk wants. -/
import Derived.Test.YtmekfiafdjdopaaDoorCd
import Derived.Test.YtmekfiafdjdopaaDoorCt
import Derived.Test.YtmekfiafdjdopaaDoorVc
namespace Go.Proofs.YtmekfiafdjdopaaDoor
open Go.RowKit Go.Shelf
theorem leafCells_at : ∀ (ls : Leaves) (k : Nat) (p : List ByteArray × Nat), ls[k]? = some p → (leafCells ls)[k * 2]? = some (.string (joinB p.1)) ∧ (leafCells ls)[k * 2 + 1]? = some (.int .i64 (p.2 : Int))
  | [], _, _, h => by simp at h
  | q :: ls, 0, p, h => by simp at h; subst h; exact ⟨rfl, rfl⟩
  | q :: ls, k + 1, p, h => by
    have := leafCells_at ls k p (by simpa using h)
    rw [show (k + 1) * 2 = k * 2 + 1 + 1 by omega]
    exact this
def LOk (p : List ByteArray × Nat) : Prop := (joinB p.1).size ≤ 100000 ∧ p.1.length ≤ 1000
theorem ok_one (l : ByteArray) (k : Nat) (h : l.size ≤ 100) : LOk ([l], k) := ⟨by show (joinB [l]).size ≤ _; rw [joinB_one]; omega, by simp⟩
theorem ok_three (l p : ByteArray) (i k : Nat) (hi : i < 100) (hl : l.size ≤ 100) (hp : p.size ≤ 100) : LOk ([l, dig i, p], k) := by
  refine ⟨?_, by simp⟩
  show (joinB [l, dig i, p]).size ≤ _
  have e : (⟨#[47]⟩ : ByteArray).size = 1 := rfl
  have := dig_size i hi
  rw [joinB_more _ _ (by simp), joinB_more _ _ (by simp), joinB_one, ByteArray.size_append, ByteArray.size_append, ByteArray.size_append, ByteArray.size_append, e]
  omega
theorem at3_ok (l p : ByteArray) (i : Nat) (ns : List Nat) (hi : i < 100) (hl : l.size ≤ 100) (hp : p.size ≤ 100) : ∀ q ∈ at3 l i p ns, LOk q := by
  intro q hq
  obtain ⟨k, -, rfl⟩ := List.mem_map.1 hq
  exact ok_three l p i k hi hl hp
theorem manyL_ok (l : ByteArray) (m n : Nat) (hl : l.size ≤ 100) : ∀ q ∈ manyL l m n, LOk q := by
  intro q hq
  unfold manyL at hq
  split at hq
  · simp at hq; subst hq; exact ok_one l 4 hl
  · simp at hq
theorem compL_ok (cs : List Cmp) : ∀ k, k ≤ 100 → ∀ q ∈ compL cs k, LOk q
  | 0, _ => by simp [compL]
  | k + 1, h => by
    intro q hq
    have ih := compL_ok cs k (by omega)
    rcases List.mem_append.1 hq with hq | hq
    · exact ih q hq
    · cases hc : cs[k]? with
      | none => simp [hc] at hq
      | some c =>
        simp only [hc, leafC, List.mem_append] at hq
        rcases hq with hq | hq | hq
        · exact at3_ok bComps bName k _ (by omega) (by decide) (by decide) q hq
        · exact at3_ok bComps bWidth k _ (by omega) (by decide) (by decide) q hq
        · exact at3_ok bComps bDefault k _ (by omega) (by decide) (by decide) q hq
theorem resL_ok (cs : List Cmp) (rs : List Rsc) : ∀ k, k ≤ 100 → ∀ q ∈ resL cs rs k, LOk q
  | 0, _ => by simp [resL]
  | k + 1, h => by
    intro q hq
    have ih := resL_ok cs rs k (by omega)
    rcases List.mem_append.1 hq with hq | hq
    · exact ih q hq
    · cases hc : rs[k]? with
      | none => simp [hc] at hq
      | some c =>
        simp only [hc] at hq
        exact at3_ok bRes bName k _ (by omega) (by decide) (by decide) q hq
theorem checkL_ok (cs : List Cmp) (rs : List Rsc) (hc : cs.length ≤ 40) (hr : rs.length ≤ 40) : (∀ q ∈ checkL cs rs, LOk q) ∧ (checkL cs rs).length ≤ 200 := by
  constructor
  · intro q hq
    simp only [checkL, List.mem_append] at hq
    rcases hq with (hq | hq) | (hq | hq)
    · exact manyL_ok bComps _ _ (by decide) q hq
    · exact compL_ok cs _ (by omega) q hq
    · exact manyL_ok bRes _ _ (by decide) q hq
    · exact resL_ok cs rs _ (by omega) q hq
  · simp only [checkL, List.length_append]
    have := manyL_len bComps 16 cs.length
    have := compL_len cs cs.length
    have := manyL_len bRes 8 rs.length
    have := resL_len cs rs rs.length
    omega
/-- What New answers. -/
def NewR (Ad : Nat → Addr) (cs : List Cmp) (n f z0 z1 z2 z3 z4 z5 : Int) (fv : Value) : Prop :=
  ((n < 0 ∨ (cs.length : Int) ≤ n) ∧ z0 = 0 ∧ z1 = 0 ∧ z2 = 0 ∧ z3 = 0 ∧ z4 = 0 ∧ z5 = 0 ∧ fv = .iface 147 (.pointer (some (Ad 1)))) ∨
  (∃ (k : Nat) (x : Cmp), n = (k : Int) ∧ cs[k]? = some x ∧ z0 = (k : Int) ∧ z1 = x.d0 ∧ z2 = x.d1 ∧ z3 = x.d2 ∧ z4 = x.d3 ∧ z5 = f ∧ fv = .nilIface)
theorem new_any (Ad : Nat → Addr) (W : World) (hE : Env W Ad) (va vb : Value) (hvb : ∃ a l c, vb = .slice a l c) (cs : List Cmp) (hC : CmpRow W va cs) (hl : cs.length ≤ 1000) (n f : Int) :
    Calls Tryd.prog 17 #[.agg #[va, vb], .int .i64 n, .int .i64 f] W fun e W' => ∃ z0 z1 z2 z3 z4 z5 fv, e = .returned (.tuple #[.agg #[.int .i64 z0, .int .i64 z1, .int .i64 z2, .int .i64 z3, .int .i64 z4, .int .i64 z5], fv]) ∧ Hid (NewR Ad cs n f z0 z1 z2 z3 z4 z5 fv) ∧ Below W.heap.size W W' := by
  by_cases h : n < 0 ∨ (cs.length : Int) ≤ n
  · exact (new_out Ad W hE va vb hvb cs hC hl n h f).mono fun e W' ⟨he, hb⟩ => ⟨0, 0, 0, 0, 0, 0, _, he, .inl ⟨h, rfl, rfl, rfl, rfl, rfl, rfl, rfl⟩, hb⟩
  · obtain ⟨k, hk⟩ : ∃ k : Nat, n = (k : Int) := Int.eq_ofNat_of_zero_le (by omega)
    subst hk
    obtain ⟨x, hx⟩ := at_lt cs k (by omega)
    exact (new_in W va vb hvb cs hC hl k x hx f).mono fun e W' ⟨he, hb⟩ => ⟨_, _, _, _, _, _, _, he, .inr ⟨k, x, rfl, hx, rfl, rfl, rfl, rfl, rfl, rfl, rfl⟩, hb⟩
theorem cells6 (w : World) (z0 z1 z2 z3 z4 z5 : Int) (W : World) (hb : Below (w.alloc (.cells #[.int .i64 z0, .int .i64 z1, .int .i64 z2, .int .i64 z3, .int .i64 z4, .int .i64 z5] 42)).heap.size (w.alloc (.cells #[.int .i64 z0, .int .i64 z1, .int .i64 z2, .int .i64 z3, .int .i64 z4, .int .i64 z5] 42)) W) :
    W.cell? ⟨w.heap.size, 0, none⟩ = some (.int .i64 z0) ∧ W.cell? ⟨w.heap.size, 1, none⟩ = some (.int .i64 z1) ∧ W.cell? ⟨w.heap.size, 2, none⟩ = some (.int .i64 z2) ∧ W.cell? ⟨w.heap.size, 3, none⟩ = some (.int .i64 z3) ∧ W.cell? ⟨w.heap.size, 4, none⟩ = some (.int .i64 z4) ∧ W.cell? ⟨w.heap.size, 5, none⟩ = some (.int .i64 z5) := by
  have R := fun (j : Nat) (u : Value) (h : [Value.int .i64 z0, .int .i64 z1, .int .i64 z2, .int .i64 z3, .int .i64 z4, .int .i64 z5][j]? = some u) => Below.seen hb (Nat.le_refl _) (row_cell w _ 42 j u h)
  exact ⟨R 0 _ rfl, R 1 _ rfl, R 2 _ rfl, R 3 _ rfl, R 4 _ rfl, R 5 _ rfl⟩
end Go.Proofs.YtmekfiafdjdopaaDoor
