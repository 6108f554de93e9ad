/- Names: IsName and the reference's. -/
import Derived.Test.YtfabmleiibnhdaaDoorKi
import Derived.Laws.IdiomStrings
import Derived.Lib.Strings
namespace Go.Proofs.YtfabmleiibnhdaaDoor.Sc
open Go.RowKit Go.Shelf
/-- A letter from a to z. -/
def lowB (c : UInt8) : Bool := 97 ≤ c && c ≤ 122
/-- A name. -/
def isNm (s : ByteArray) : Bool := decide (1 ≤ s.size) && decide (s.size ≤ 8) && s.data.toList.all lowB
theorem isNm_none (s : ByteArray) (h : s.size = 0) : isNm s = false := by simp [isNm, h]
theorem isNm_long (s : ByteArray) (h : 8 < s.size) : isNm s = false := by simp [isNm]; omega
theorem take_snoc (s : ByteArray) (k : Nat) (h : k < s.size) : s.data.toList.take (k + 1) = s.data.toList.take k ++ [s[k]] := by
  rw [List.take_succ_eq_append_getElem (by simpa using h)]; rfl
theorem low_iff (c : UInt8) : lowB c = decide (97 ≤ (c.toNat : Int) ∧ (c.toNat : Int) ≤ 122) := by
  unfold lowB
  rw [Bool.eq_iff_iff]; simp [UInt8.le_iff_toNat_le]; omega
theorem isNm_bad (s : ByteArray) (k : Nat) (h : k < s.size) (hb : lowB s[k] = false) : isNm s = false := by
  have : s.data.toList.all lowB = false := List.all_eq_false.2 ⟨s[k], Array.getElem_mem_toList h, by rw [hb]; exact Bool.false_ne_true⟩
  unfold isNm
  rw [this]; simp
theorem isNm_all (s : ByteArray) (h1 : 1 ≤ s.size) (h2 : s.size ≤ 8) (h : (s.data.toList.take s.size).all lowB = true) : isNm s = true := by
  have e : s.data.toList.take s.size = s.data.toList := List.take_of_length_le (by rw [Array.length_toList]; exact Nat.le_refl _)
  rw [e] at h
  unfold isNm
  rw [h]
  simp only [Bool.and_true, Bool.and_eq_true, decide_eq_true_eq]
  exact ⟨h1, h2⟩
theorem all_next (s : ByteArray) (k : Nat) (h : k < s.size) : (s.data.toList.take (k + 1)).all lowB = ((s.data.toList.take k).all lowB && lowB s[k]) := by
  rw [take_snoc s k h, List.all_append]; simp
theorem bytes_cell (w : World) (s : ByteArray) (cap e : Nat) (fr : Nat × Nat) (k : Nat) (hk : k < s.size) : (w.drew.alloc (.cells (bytesRow s cap) e fr)).cell? ⟨w.heap.size, k, none⟩ = some (.int .u8 (s[k].toNat : Int)) := by
  have h : (w.drew.alloc (.cells (bytesRow s cap) e fr)).heap[w.heap.size]? = some (.cells (bytesRow s cap) e fr) := heap_alloc_new w.drew _
  rw [cell_of_row _ _ k _ e fr h]
  exact bytesRow_at s cap k hk
end Go.Proofs.YtfabmleiibnhdaaDoor.Sc
