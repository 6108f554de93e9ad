/- For BlameParts: two leaves alike; how long a way is; the walk. -/
import Derived.Test.YthmiacpaefjanaaDoorTf
import Derived.Laws.StructEq
namespace Go.Proofs.YthmiacpaefjanaaDoor
open Go.RowKit Go.Shelf
theorem neqS (s : ByteArray) (n : Int) (w : World) : (binOp .neq 47 (.agg #[.string s, .int .i64 n]) (.agg #[.string s, .int .i64 n])).run Tryd.prog w = .ok (.bool false) w := by
  have hS : Tryd.prog.underlying 47 = some (.struct (Tryd.prog.fieldsOf 47)) := by kernel_rfl
  have hp : Tryd.prog.stoodInHeld 47 = false := by kernel_rfl
  have h := run_equalIn_agg (P := Tryd.prog) w 9999 47 #[.string s, .int .i64 n] #[.string s, .int .i64 n] hS hp
  have u3 := Tryd.underlying3
  have a3 := Tryd.isAgg3
  have z3 := Tryd.sizeOf3
  have u9 := Tryd.underlying9
  have a9 := Tryd.isAgg9
  have z9 := Tryd.sizeOf9
  simp only [Program.fieldsOf, Tryd.underlying47] at h
  simp [go_sem, binOp, Op.equal]
  rw [show Op.maxDepth = 9999 + 1 from rfl, h]
  clear h hS hp
  go_simp
theorem lens_le : ∀ (L : List (List UInt8)) (m : Nat), (∀ x ∈ L, x.length ≤ m) → Lib.lens L ≤ m * L.length
  | [], _, _ => by simp [Lib.lens]
  | x :: L, m, h => by
    have h1 := lens_le L m (fun y hy => h y (by simp [hy]))
    have h2 := h x (by simp)
    simp only [Lib.lens, List.map_cons, List.sum_cons, List.length_cons, Nat.mul_add, Nat.mul_one] at h1 ⊢
    omega
theorem join_le (ws : List ByteArray) (h : ∀ x ∈ ws, x.size ≤ 100) (hl : ws.length ≤ 20) : (joinB ws).size ≤ 100000 := by
  have e : (joinB ws).size = (Lib.join (ws.map (·.data.toList)) [47]).length := by simp [joinB, ByteArray.size]
  rw [e]
  cases ws with
  | nil => simp [Lib.join_nil]
  | cons x r =>
    rw [List.map_cons, Lib.join_length]
    have := lens_le (x.data.toList :: r.map (·.data.toList)) 100 (by
      intro y hy
      rw [← List.map_cons (f := fun b : ByteArray => b.data.toList)] at hy
      obtain ⟨b, hb, rfl⟩ := List.mem_map.1 hy
      show b.data.toList.length ≤ 100
      rw [Array.length_toList]
      exact h b hb)
    simp only [List.length_cons, List.length_map, List.length_nil] at this hl ⊢
    omega
theorem leafOf_small {ts : List Twg} (h : SmallT ts) : ∀ p ∈ leafOf ts, (joinB p.1).size ≤ 100000 ∧ p.1.length ≤ 1000 := by
  intro p hp
  have hw : p.1 = ways (ts.take (endAt ts)) := by
    unfold leafOf at hp
    split at hp
    · split at hp
      · simp at hp; rw [hp]
      · simp at hp
    · simp at hp
  have hl := ways_len (ts.take (endAt ts))
  rw [List.length_take] at hl
  have h12 := h.1
  rw [hw]
  refine ⟨join_le _ (fun x hx => ?_) (by omega), by omega⟩
  unfold ways at hx
  obtain ⟨t, ht, rfl⟩ := List.mem_map.1 hx
  exact h.2 t (List.mem_of_mem_take (List.mem_filter.1 ht).1)
theorem leaves2_small {rs : List (Value × List Twg)} (h : SmallR rs) : ∀ p ∈ leaves2 rs, (joinB p.1).size ≤ 100000 ∧ p.1.length ≤ 1000 := by
  intro p hp
  unfold leaves2 at hp
  obtain ⟨l, hl, hp⟩ := List.mem_flatten.1 hp
  obtain ⟨r, hr, rfl⟩ := List.mem_map.1 hl
  exact leafOf_small (h.2 r hr) p hp
theorem leafCells_at : ∀ (ls : List (List ByteArray × Nat)) (k : Nat) (p : List ByteArray × Nat), ls[k]? = some p → (leafCells ls)[k * 2]? = some (.string (joinB p.1)) ∧ (leafCells ls)[k * 2 + 1]? = some (.int .i64 (p.2 : Int))
  | [], _, _, h => by simp at h
  | q :: ls, 0, p, h => by simp at h; subst h; exact ⟨rfl, rfl⟩
  | q :: ls, k + 1, p, h => by
    have := leafCells_at ls k p (by simpa using h)
    rw [show (k + 1) * 2 = k * 2 + 1 + 1 by omega]
    exact this
end Go.Proofs.YthmiacpaefjanaaDoor
