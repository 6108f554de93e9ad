/- Names: IsName and the reference's. -/
import Derived.Test.YtbfjijiakkopeaaDoorKi
import Derived.Laws.IdiomStrings
import Derived.Lib.Strings
namespace Go.Proofs.YtbfjijiakkopeaaDoor.Sc
open Go.RowKit Go.Shelf
/-- A letter from a to z. -/
def lowB (c : UInt8) : Bool := 97 ≤ c && c ≤ 122
/-- A name. -/
def isNm (s : ByteArray) : Bool := decide (1 ≤ s.size) && decide (s.size ≤ 8) && s.data.toList.all lowB
theorem isNm_none (s : ByteArray) (h : s.size = 0) : isNm s = false := by simp [isNm, h]
theorem isNm_long (s : ByteArray) (h : 8 < s.size) : isNm s = false := by simp [isNm]; omega
theorem take_snoc (s : ByteArray) (k : Nat) (h : k < s.size) : s.data.toList.take (k + 1) = s.data.toList.take k ++ [s[k]] := by
  rw [List.take_succ_eq_append_getElem (by simpa using h)]; rfl
theorem low_iff (c : UInt8) : lowB c = decide (97 ≤ (c.toNat : Int) ∧ (c.toNat : Int) ≤ 122) := by
  unfold lowB
  rw [Bool.eq_iff_iff]; simp [UInt8.le_iff_toNat_le]; omega
theorem isNm_bad (s : ByteArray) (k : Nat) (h : k < s.size) (hb : lowB s[k] = false) : isNm s = false := by
  have : s.data.toList.all lowB = false := List.all_eq_false.2 ⟨s[k], Array.getElem_mem_toList h, by rw [hb]; exact Bool.false_ne_true⟩
  unfold isNm
  rw [this]; simp
theorem isNm_all (s : ByteArray) (h1 : 1 ≤ s.size) (h2 : s.size ≤ 8) (h : (s.data.toList.take s.size).all lowB = true) : isNm s = true := by
  have e : s.data.toList.take s.size = s.data.toList := List.take_of_length_le (by rw [Array.length_toList]; exact Nat.le_refl _)
  rw [e] at h
  unfold isNm
  rw [h]
  simp only [Bool.and_true, Bool.and_eq_true, decide_eq_true_eq]
  exact ⟨h1, h2⟩
theorem all_next (s : ByteArray) (k : Nat) (h : k < s.size) : (s.data.toList.take (k + 1)).all lowB = ((s.data.toList.take k).all lowB && lowB s[k]) := by
  rw [take_snoc s k h, List.all_append]; simp
set_option maxHeartbeats 800000 in
set_option maxRecDepth 100000 in
theorem refname_small (s : ByteArray) (w : World) (hs : s.size ≤ 1000) : Calls Tryd.prog 31 #[.string s] w fun e w' => e = .returned (.bool (isNm s)) ∧ w' = w := by
  have hsi : (s.size : Int) ≤ 1000 := by omega
  by_cases h0 : s.size = 0
  · have R := hid (isNm_none s h0)
    have q : (s.size : Int) < 1 := by omega
    clear h0
    go_enter Tryd.func31, Tryd.ntmps31
    go_wp2
    go_ret
    exact ⟨by rw [R.out]; rfl, rfl⟩
  · by_cases h8 : 8 < s.size
    · have R := hid (isNm_long s h8)
      have q : ¬ ((s.size : Int) < 1) := by omega
      have q8 : (8 : Int) < (s.size : Int) := by omega
      clear h0
      go_enter Tryd.func31, Tryd.ntmps31
      go_wp2
      go_ret
      exact ⟨by rw [R.out]; rfl, rfl⟩
    · have q : ¬ ((s.size : Int) < 1) := by omega
      have q8 : ¬ ((8 : Int) < (s.size : Int)) := by omega
      go_enter Tryd.func31, Tryd.ntmps31
      go_wp2
      go_loop [3] (fun i => ∃ k : Nat, k ≤ s.size ∧ i = .int .i64 (k : Int) ∧ Hid ((s.data.toList.take k).all lowB = true)) (fun i => s.size - (intOf i).toNat)
      case atStart => exact ⟨0, Nat.zero_le _, rfl, rfl⟩
      case round =>
        obtain ⟨k, hk, rfl, HA⟩ := hrel
        by_cases hlt : k < s.size
        · have AN := hid (all_next s k hlt)
          have LI := low_iff s[k]
          by_cases hb : lowB s[k] = true
          · have hb' : 97 ≤ (s[k].toNat : Int) ∧ (s[k].toNat : Int) ≤ 122 := by rw [LI] at hb; simpa using hb
            obtain ⟨hb1, hb2⟩ := hb'
            have R : Hid ((s.data.toList.take (k + 1)).all lowB = true) := by show _ = _; rw [AN.out, HA.out, hb]; rfl
            clear LI hb
            go_wp2
            go_round
            case rel => exact ⟨k + 1, by omega, by go_num, R.out⟩
            case measure => simp [intOf]; omega
          · have hbf : lowB s[k] = false := by simpa using hb
            have R := hid (isNm_bad s k hlt hbf)
            have hb' : ¬ (97 ≤ (s[k].toNat : Int) ∧ (s[k].toNat : Int) ≤ 122) := by rw [LI] at hb; simpa using hb
            clear LI hb hbf
            by_cases hc : (s[k].toNat : Int) < 97
            · go_wp2
              go_ret
              exact ⟨by rw [R.out]; rfl, rfl⟩
            · have hd : (122 : Int) < (s[k].toNat : Int) := by omega
              go_wp2
              go_ret
              exact ⟨by rw [R.out]; rfl, rfl⟩
        · have R : Hid (isNm s = true) := isNm_all s (by omega) (by omega) (by rw [← HA.out, show k = s.size by omega])
          go_wp2
          go_ret
          exact ⟨by rw [R.out]; rfl, rfl⟩
theorem bytes_cell (w : World) (s : ByteArray) (cap e : Nat) (fr : Nat × Nat) (k : Nat) (hk : k < s.size) : (w.drew.alloc (.cells (bytesRow s cap) e fr)).cell? ⟨w.heap.size, k, none⟩ = some (.int .u8 (s[k].toNat : Int)) := by
  have h : (w.drew.alloc (.cells (bytesRow s cap) e fr)).heap[w.heap.size]? = some (.cells (bytesRow s cap) e fr) := heap_alloc_new w.drew _
  rw [cell_of_row _ _ k _ e fr h]
  exact bytesRow_at s cap k hk
set_option maxHeartbeats 800000 in
set_option maxRecDepth 100000 in
theorem isname_small (s : ByteArray) (w : World) (hs : s.size ≤ 1000) : Calls Tryd.prog 55 #[.string s] w fun e w' => e = .returned (.bool (isNm s)) ∧ Below w.heap.size w w' := by
  have hsi : (s.size : Int) ≤ 1000 := by omega
  by_cases h0 : s.toList = []
  · have R : Hid (isNm s = false) := isNm_none s (by rw [Lib.size_eq, ← Lib.toList_data, h0]; rfl)
    go_enter Tryd.func55, Tryd.ntmps55
    go_wp2_with fail
    go_ret
    exact ⟨by rw [R.out]; rfl, Below.refl _ _⟩
  · have h1 : 1 ≤ s.size := by
      rcases Nat.eq_zero_or_pos s.size with h | h
      · exfalso; apply h0; apply List.eq_nil_of_length_eq_zero; rw [Lib.toList_data, ← Lib.size_eq]; exact h
      · exact h
    have hie : s.toList.isEmpty = false := by simpa using h0
    by_cases h8 : 8 < s.size
    · have q8 : (8 : Int) < (s.size : Int) := by omega
      have R := hid (isNm_long s h8)
      go_enter Tryd.func55, Tryd.ntmps55
      go_wp2_with fail
      go_ret
      exact ⟨by rw [R.out]; rfl, Below.refl _ _⟩
    · have q8 : ¬ ((8 : Int) < (s.size : Int)) := by omega
      have hcv := run_bytes_of_string (P := Tryd.prog) w 9 104 5 s Tryd.underlying9 Tryd.underlying104 Tryd.underlying5
      have BC := hid (bytes_cell w s (grownCap w s.size 0 5) 5 ((bytesRow s (grownCap w s.size 0 5)).size, (bytesRow s (grownCap w s.size 0 5)).size + 1))
      have BB : Hid (Below w.heap.size w (w.drew.alloc (.cells (bytesRow s (grownCap w s.size 0 5)) 5 ((bytesRow s (grownCap w s.size 0 5)).size, (bytesRow s (grownCap w s.size 0 5)).size + 1)))) := (Below.refl _ _).drew.alloc (Nat.le_refl _) _
      generalize w.drew.alloc (.cells (bytesRow s (grownCap w s.size 0 5)) 5 ((bytesRow s (grownCap w s.size 0 5)).size, (bytesRow s (grownCap w s.size 0 5)).size + 1)) = w2 at *
      generalize grownCap w s.size 0 5 = cap at *
      go_enter Tryd.func55, Tryd.ntmps55
      go_wp2_with fail
      go_loop [4, 15] (fun _ i => ∃ k : Nat, k ≤ s.size ∧ i = .int .i64 (k : Int) ∧ Hid ((s.data.toList.take k).all lowB = true)) (fun _ i => s.size - (intOf i).toNat)
      case atStart => exact ⟨0, Nat.zero_le _, rfl, rfl⟩
      case round =>
        obtain ⟨k, hk, rfl, HA⟩ := hrel
        by_cases hlt : k < s.size
        · have AN := hid (all_next s k hlt)
          have LI := low_iff s[k]
          have hki : (k : Int) < (s.size : Int) := by omega
          have hc := BC.out k hlt
          by_cases hb : lowB s[k] = true
          · have hb' : 97 ≤ (s[k].toNat : Int) ∧ (s[k].toNat : Int) ≤ 122 := by rw [LI] at hb; simpa using hb
            have R : Hid ((s.data.toList.take (k + 1)).all lowB = true) := by show _ = _; rw [AN.out, HA.out, hb]; rfl
            clear LI hb AN
            generalize (s[k].toNat : Int) = x at *
            obtain ⟨hb1, hb2⟩ := hb'
            go_wp2_with fail
            go_round
            case rel => exact ⟨k + 1, by omega, by go_num, R.out⟩
            case measure => simp [intOf]; omega
          · have hbf : lowB s[k] = false := by simpa using hb
            have R := hid (isNm_bad s k hlt hbf)
            have hb' : ¬ (97 ≤ (s[k].toNat : Int) ∧ (s[k].toNat : Int) ≤ 122) := by rw [LI] at hb; simpa using hb
            clear LI hb hbf AN
            generalize (s[k].toNat : Int) = x at *
            by_cases hc : x < 97
            · go_wp2_with fail
              go_ret
              exact ⟨by rw [R.out]; rfl, BB.out⟩
            · have hd : (122 : Int) < x := by omega
              go_wp2_with fail
              go_ret
              exact ⟨by rw [R.out]; rfl, BB.out⟩
        · have R : Hid (isNm s = true) := isNm_all s (by omega) (by omega) (by rw [← HA.out, show k = s.size by omega])
          have hki : ¬ ((k : Int) < (s.size : Int)) := by omega
          go_wp2_with fail
          go_ret
          exact ⟨by rw [R.out]; rfl, BB.out⟩
set_option maxHeartbeats 800000 in
set_option maxRecDepth 100000 in
theorem refname_any (s : ByteArray) (w : World) : Calls Tryd.prog 31 #[.string s] w fun e w' => e = .returned (.bool (isNm s)) ∧ w' = w := by
  by_cases h8 : 8 < s.size
  · have R := hid (isNm_long s h8)
    have q : ¬ ((s.size : Int) < 1) := by omega
    have q8 : (8 : Int) < (s.size : Int) := by omega
    go_enter Tryd.func31, Tryd.ntmps31
    go_wp2
    go_ret
    exact ⟨by rw [R.out]; rfl, rfl⟩
  · exact refname_small s w (by omega)
set_option maxHeartbeats 800000 in
set_option maxRecDepth 100000 in
theorem isname_any (s : ByteArray) (w : World) : Calls Tryd.prog 55 #[.string s] w fun e w' => e = .returned (.bool (isNm s)) ∧ Below w.heap.size w w' := by
  by_cases h8 : 8 < s.size
  · have h0 : ¬ s.toList = [] := fun h => by
      have : s.size = 0 := by rw [Lib.size_eq, ← Lib.toList_data, h]; rfl
      omega
    have hie : s.toList.isEmpty = false := by simpa using h0
    have q8 : (8 : Int) < (s.size : Int) := by omega
    have R := hid (isNm_long s h8)
    go_enter Tryd.func55, Tryd.ntmps55
    go_wp2_with fail
    go_ret
    exact ⟨by rw [R.out]; rfl, Below.refl _ _⟩
  · exact isname_small s w (by omega)
end Go.Proofs.YtbfjijiakkopeaaDoor.Sc
