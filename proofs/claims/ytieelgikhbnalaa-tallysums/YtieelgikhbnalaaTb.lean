/- Contracts of tally: Of, Mix, Short, and the reference's. -/
import Derived.Test.YtieelgikhbnalaaTa
import Derived.Deep.RegionWith
import Derived.Maps.AppendAt
namespace Go.Proofs.Ytieelgikhbnalaa
open Go.ChangeShapes Go.WideShapes Go.ChangeAt Go.RowKit
/-- A row of texts in memory. -/
def Strs (w : World) (v : Value) (l : List ByteArray) : Prop := ∃ a c, v = .slice a l.length c ∧ (l = [] ∨ ∃ b o, a = some ⟨b, o, none⟩ ∧ ∀ (j : Nat) s, l[j]? = some s → w.cell? ⟨b, o + j, none⟩ = some (.string s))
/-- A row of numbers in memory. -/
def Nums (w : World) (v : Value) (l : List Nat) : Prop := ∃ a c, v = .slice a l.length c ∧ (l = [] ∨ ∃ b o, a = some ⟨b, o, none⟩ ∧ ∀ (j : Nat) n, l[j]? = some n → w.cell? ⟨b, o + j, none⟩ = some (.int .u64 (n : Nat)))
/-- The bytes of texts, one behind the other. -/
def cat (l : List ByteArray) : List UInt8 := l.flatMap fun s => s.data.toList
theorem cat_snoc (l : List ByteArray) (s : ByteArray) : cat (l ++ [s]) = cat l ++ s.data.toList := by simp [cat]
theorem cat_app (l m : List ByteArray) : cat (l ++ m) = cat l ++ cat m := by simp [cat]
def st : Int := 14695981039346656037
theorem take_next {α : Type} {l : List α} {k : Nat} {s : α} (h : l[k]? = some s) : l.take (k + 1) = l.take k ++ [s] := by
  obtain ⟨hk, rfl⟩ := List.getElem?_eq_some_iff.1 h
  exact List.take_succ_eq_append_getElem hk
theorem at_lt {α : Type} (l : List α) (k : Nat) (h : k < l.length) : ∃ s, l[k]? = some s := ⟨l[k], List.getElem?_eq_getElem h⟩
def short (h : Nat) : Nat := (h % 4294967296) ^^^ (h / 4294967296 % 4294967296)
set_option maxHeartbeats 400000 in
theorem of_any (v : Value) (l : List ByteArray) (w : World) (hl : l.length ≤ 140737488355328) (hs : ∀ s ∈ l, s.size ≤ 140737488355328) (hv : Strs w v l) :
    Calls Try.prog 16 #[v] w fun e w' => e = .returned (.int .u64 (ovT st (cat l))) ∧ w' = w := by
  obtain ⟨a, c, rfl, hv⟩ := hv
  have HV := hid hv
  clear hv
  go_enter Try.func16, Try.ntmps16
  go_wp2
  go_loop [3, 8] (fun n i => ∃ k : Nat, k ≤ l.length ∧ i = .int .i64 k ∧ n = .int .u64 (ovT st (cat (l.take k)))) (fun _ i => l.length - (intOf i).toNat)
  case atStart => exact ⟨0, Nat.zero_le _, rfl, rfl⟩
  case round =>
    obtain ⟨k, hk, rfl, rfl⟩ := hrel
    by_cases hlt : k < l.length
    · obtain ⟨s, hsk⟩ := at_lt l k hlt
      obtain ⟨b, o, rfl, hc⟩ := HV.out.resolve_left (by rintro rfl; simp at hlt)
      have c1 := hc k s hsk
      have hz := hs s (List.mem_of_getElem? hsk)
      have HS := hid (show ovT st (cat (l.take (k + 1))) = ovT (ovT st (cat (l.take k))) s.data.toList by rw [take_next hsk, cat_snoc, ovT_app])
      clear hc hsk
      go_wp2_with (go_at_call 21; refine (text_any _ _ hz _).mono ?_; rintro e w' ⟨rfl, rfl⟩)
      go_round
      case rel => exact ⟨k + 1, by omega, by go_num, by rw [HS.out]⟩
      case measure => simp [intOf]; omega
    · go_wp2
      go_ret
      exact ⟨ret_u (by rw [List.take_of_length_le (by omega)]), rfl⟩
set_option maxHeartbeats 400000 in
theorem rof_any (v : Value) (l : List ByteArray) (w : World) (hl : l.length ≤ 140737488355328) (hs : ∀ s ∈ l, s.size ≤ 140737488355328) (hv : Strs w v l) :
    Calls Try.prog 13 #[v] w fun e w' => e = .returned (.int .u64 (ovT st (cat l))) ∧ w' = w := by
  obtain ⟨a, c, rfl, hv⟩ := hv
  have HV := hid hv
  clear hv
  go_enter Try.func13, Try.ntmps13
  go_wp2
  go_loop [3, 4] (fun n i => ∃ k : Nat, k ≤ l.length ∧ i = .int .i64 k ∧ n = .int .u64 (ovT st (cat (l.take k)))) (fun _ i => l.length - (intOf i).toNat)
  case atStart => exact ⟨0, Nat.zero_le _, rfl, rfl⟩
  case round =>
    obtain ⟨k, hk, rfl, rfl⟩ := hrel
    by_cases hlt : k < l.length
    · obtain ⟨s, hsk⟩ := at_lt l k hlt
      obtain ⟨b, o, rfl, hc⟩ := HV.out.resolve_left (by rintro rfl; simp at hlt)
      have c1 := hc k s hsk
      have hz := hs s (List.mem_of_getElem? hsk)
      have HS := hid (show ovT st (cat (l.take (k + 1))) = ovT (ovT st (cat (l.take k))) s.data.toList by rw [take_next hsk, cat_snoc, ovT_app])
      clear hc hsk
      go_wp2_with (go_at_call 22; refine (on_any _ _ hz _).mono ?_; rintro e w' ⟨rfl, rfl⟩)
      go_round
      case rel => exact ⟨k + 1, by omega, by go_num, by rw [HS.out]⟩
      case measure => simp [intOf]; omega
    · go_wp2
      go_ret
      exact ⟨ret_u (by rw [List.take_of_length_le (by omega)]), rfl⟩
/-- What Mix answers. -/
def mixZ (l : List Nat) : Int := l.foldl (fun m n => IntKind.u64.wrap (m + ovT st (numL n))) 0
theorem mix_snoc (l : List Nat) (n : Nat) : mixZ (l ++ [n]) = IntKind.u64.wrap (mixZ l + ovT st (numL n)) := by simp [mixZ]
set_option maxHeartbeats 400000 in
theorem mix_any (v : Value) (l : List Nat) (w : World) (hl : l.length ≤ 140737488355328) (hv : Nums w v l) :
    Calls Try.prog 17 #[v] w fun e w' => e = .returned (.int .u64 (mixZ l)) ∧ w' = w := by
  obtain ⟨a, c, rfl, hv⟩ := hv
  have HV := hid hv
  clear hv
  go_enter Try.func17, Try.ntmps17
  go_wp2
  go_loop [3, 8] (fun n i => ∃ k : Nat, k ≤ l.length ∧ i = .int .i64 k ∧ n = .int .u64 (mixZ (l.take k))) (fun _ i => l.length - (intOf i).toNat)
  case atStart => exact ⟨0, Nat.zero_le _, rfl, rfl⟩
  case round =>
    obtain ⟨k, hk, rfl, rfl⟩ := hrel
    by_cases hlt : k < l.length
    · obtain ⟨s, hsk⟩ := at_lt l k hlt
      obtain ⟨b, o, rfl, hc⟩ := HV.out.resolve_left (by rintro rfl; simp at hlt)
      have c1 := hc k s hsk
      have HS := hid (show mixZ (l.take (k + 1)) = IntKind.u64.wrap (mixZ (l.take k) + ovT st (numL s)) by rw [take_next hsk, mix_snoc])
      clear hc hsk
      go_wp2_with (go_at_call 20; refine (number_any _ _ _).mono ?_; rintro e w' ⟨rfl, rfl⟩)
      go_round
      case rel => exact ⟨k + 1, by omega, by go_num, by rw [HS.out]; rfl⟩
      case measure => simp [intOf]; omega
    · go_wp2
      go_ret
      exact ⟨ret_u (by rw [List.take_of_length_le (by omega)]), rfl⟩
/-- Short of a sum, as the code says it. -/
def shZ (h : Int) : Int := bits .xor .u32 (IntKind.u32.wrap h) (IntKind.u32.wrap (h / 4294967296))
set_option maxHeartbeats 400000 in
theorem short_any (s : ByteArray) (w : World) (hs : s.size ≤ 140737488355328) :
    Calls Try.prog 14 #[.string s] w fun e w' => e = .returned (.int .u32 (shZ (ovT st s.data.toList))) ∧ w' = w.alloc (.cells #[.string s] 9) := by
  go_enter Try.func14, Try.ntmps14
  go_wp2_with (go_at_call 16; refine (of_any _ [s] _ (by simp) (by simpa using hs) ⟨_, _, rfl, .inr ⟨_, _, rfl, ?_⟩⟩).mono ?_; (intro j t ht; cases j <;> simp at ht; subst ht; simp [go_sem]); rintro e w' ⟨rfl, rfl⟩)
  go_ret
  rw [show cat [s] = s.data.toList by simp [cat]]
  exact ⟨rfl, rfl⟩
set_option maxHeartbeats 400000 in
theorem rshort_any (s : ByteArray) (w : World) (hs : s.size ≤ 140737488355328) :
    Calls Try.prog 15 #[.string s] w fun e w' => e = .returned (.int .u32 (shZ (ovT st s.data.toList))) ∧ w' = w := by
  go_enter Try.func15, Try.ntmps15
  go_wp2_with (go_at_call 22; refine (on_any _ _ hs _).mono ?_; rintro e w' ⟨rfl, rfl⟩)
  go_ret
  exact ⟨rfl, rfl⟩
end Go.Proofs.Ytieelgikhbnalaa
