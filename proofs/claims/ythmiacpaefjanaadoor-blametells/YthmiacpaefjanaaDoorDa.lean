/- A way with one place more ahead of it. -/
import Derived.Test.YthmiacpaefjanaaDoorTg
namespace Go.Proofs.YthmiacpaefjanaaDoor
open Go.RowKit Go.Shelf
theorem joinB_one (s : ByteArray) : joinB [s] = s := by
  unfold joinB
  rw [List.map_cons, List.map_nil, Lib.join_one]
theorem joinB_more (s : ByteArray) (p : List ByteArray) (hp : p ≠ []) : joinB (s :: p) = s ++ (⟨#[47]⟩ ++ joinB p) := by
  cases p with
  | nil => exact absurd rfl hp
  | cons a q =>
    have h1 : Lib.join ((s :: a :: q).map (·.data.toList)) [47] = s.data.toList ++ ([47] ++ Lib.join ((a :: q).map (·.data.toList)) [47]) := by
      simp [Lib.join, List.intercalate]
    unfold joinB
    rw [h1]
    apply ByteArray.ext
    simp
theorem joinB_size (s : ByteArray) (p : List ByteArray) : s.size ≤ (joinB (s :: p)).size := by
  by_cases hp : p = []
  · subst hp; rw [joinB_one]; exact Nat.le_refl _
  · rw [joinB_more s p hp, ByteArray.size_append]; omega
theorem joinB_head (s : ByteArray) (p : List ByteArray) : (joinB (s :: p)).extract 0 s.size = s := by
  by_cases hp : p = []
  · subst hp; rw [joinB_one]; simp
  · rw [joinB_more s p hp]; simp [ByteArray.extract_append]
theorem cut_right (s r : ByteArray) : (s ++ r).extract s.size (s ++ r).size = r := by
  apply ByteArray.ext
  have h1 : s.data.extract s.size (s.size + r.size) = #[] := Array.extract_empty_of_size_le_start (Nat.le_refl _)
  have h2 : r.data.extract 0 r.size = r.data := Array.extract_eq_self_of_le (Nat.le_refl _)
  simp [h1, h2]
theorem joinB_tail (s : ByteArray) (p : List ByteArray) (h : s.size < (joinB (s :: p)).size) : (joinB (s :: p)).extract s.size (joinB (s :: p)).size = ⟨#[47]⟩ ++ joinB p := by
  by_cases hp : p = []
  · subst hp; rw [joinB_one] at h; omega
  · rw [joinB_more s p hp]
    generalize (⟨#[47]⟩ ++ joinB p : ByteArray) = r
    exact cut_right s r
theorem joinB_max (s : ByteArray) (p : List ByteArray) : (joinB (s :: p)).size ≤ s.size + 1 + (joinB p).size := by
  by_cases hp : p = []
  · subst hp; rw [joinB_one]; omega
  · rw [joinB_more s p hp, ByteArray.size_append, ByteArray.size_append]
    have : (⟨#[47]⟩ : ByteArray).size = 1 := rfl
    omega
end Go.Proofs.YthmiacpaefjanaaDoor
