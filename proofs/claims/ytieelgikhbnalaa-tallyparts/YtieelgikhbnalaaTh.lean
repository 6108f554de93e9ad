/- TallyParts: the walk. -/
import Derived.Test.YtieelgikhbnalaaTd
import Derived.Test.YtieelgikhbnalaaTe
import Derived.Deep.RegionHeld3
namespace Go.Proofs.Ytieelgikhbnalaa
open Go.ChangeShapes Go.WideShapes Go.ChangeAt Go.RowKit
def greatB (l : List ByteArray) : Bool := decide (60 < l.length) || l.any fun s => decide (4096 < s.size)
set_option maxHeartbeats 400000 in
theorem great_yes (v : Value) (l : List ByteArray) (w : World) (hl : 60 < l.length) (hm : l.length ≤ maxLen) (hv : Strs w v l) :
    Calls Try.prog 19 #[v] w fun e w' => e = .returned (.bool true) ∧ w' = w := by
  obtain ⟨a, c, rfl, -⟩ := hv
  unfold maxLen at hm
  go_enter Try.func19, Try.ntmps19
  go_wp2
  go_ret
  exact ⟨rfl, rfl⟩
set_option maxHeartbeats 400000 in
theorem great_any (v : Value) (l : List ByteArray) (w : World) (hl : l.length ≤ 60) (hs : ∀ s ∈ l, s.size ≤ maxLen) (hv : Strs w v l) :
    Calls Try.prog 19 #[v] w fun e w' => e = .returned (.bool (l.any fun s => decide (4096 < s.size))) ∧ w' = w := by
  obtain ⟨a, c, rfl, hv⟩ := hv
  have HV := hid hv
  clear hv
  go_enter Try.func19, Try.ntmps19
  go_wp2
  go_loop [3] (fun i => ∃ k : Nat, k ≤ l.length ∧ i = .int .i64 k ∧ ∀ s ∈ l.take k, s.size ≤ 4096) (fun i => l.length - (intOf i).toNat)
  case atStart => exact ⟨0, Nat.zero_le _, rfl, by simp⟩
  case round =>
    obtain ⟨k, hk, rfl, hsm⟩ := hrel
    have HSM := hid hsm
    clear hsm
    by_cases hlt : k < l.length
    · obtain ⟨s, hsk⟩ := at_lt l k hlt
      obtain ⟨b, o, rfl, hc⟩ := HV.out.resolve_left (by rintro rfl; simp at hlt)
      have c1 := hc k s hsk
      have hz := hs s (List.mem_of_getElem? hsk)
      unfold maxLen at hz
      by_cases h4 : 4096 < s.size
      · have HA := hid (show (l.any fun s => decide (4096 < s.size)) = true from List.any_eq_true.2 ⟨s, List.mem_of_getElem? hsk, by simpa using h4⟩)
        clear hc hsk
        go_wp2
        go_ret
        rw [HA.out]
        exact ⟨rfl, rfl⟩
      · have HN := hid (show ∀ s ∈ l.take (k + 1), s.size ≤ 4096 by
          rw [take_next hsk]
          intro t ht
          rcases List.mem_append.1 ht with h | h
          · exact HSM.out t h
          · have : t = s := by simpa using h
            subst this; omega)
        clear hc hsk
        go_wp2
        go_round
        case rel => exact ⟨k + 1, by omega, by go_num, HN.out⟩
        case measure => simp [intOf]; omega
    · have HA := hid (show (l.any fun s => decide (4096 < s.size)) = false by
        rw [List.any_eq_false]
        intro s hs
        have := HSM.out s (by rw [List.take_of_length_le (by omega)]; exact hs)
        simpa using this)
      go_wp2
      go_ret
      rw [HA.out]
      exact ⟨rfl, rfl⟩
theorem cat_len (l : List ByteArray) (n : Nat) (h : ∀ s ∈ l, s.size ≤ n) : (cat l).length ≤ n * l.length := by
  induction l with
  | nil => simp [cat]
  | cons s l ih =>
    have h1 := ih (fun t ht => h t (List.mem_cons_of_mem _ ht))
    have h2 := h s (List.mem_cons_self ..)
    have e : (cat (s :: l)).length = s.size + (cat l).length := by simp [cat]
    rw [e, List.length_cons, Nat.mul_succ]; omega
end Go.Proofs.Ytieelgikhbnalaa
