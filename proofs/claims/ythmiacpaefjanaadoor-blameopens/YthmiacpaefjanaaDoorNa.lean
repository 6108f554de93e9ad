/- For BlameNames: Of outside its numbers, errors.New, Number of an error that is none of the named ones. -/
import Derived.Test.YthmiacpaefjanaaDoorAw
namespace Go.Proofs.YthmiacpaefjanaaDoor
open Go.RowKit Go.Shelf
set_option maxHeartbeats 800000 in
theorem of_zero (w : World) : Calls Tryd.prog 18 #[.int .i64 0] w fun e w' => e = .returned .nilIface ∧ w' = w := by
  go_enter Tryd.func18, Tryd.ntmps18
  go_wp2
  go_ret
  exact ⟨rfl, rfl⟩
set_option maxHeartbeats 800000 in
theorem of_nineteen (w : World) : Calls Tryd.prog 18 #[.int .i64 19] w fun e w' => e = .returned .nilIface ∧ w' = w := by
  go_enter Tryd.func18, Tryd.ntmps18
  go_wp2
  go_ret
  exact ⟨rfl, rfl⟩
theorem of_num (w : World) (Ad : Nat → Addr) (h : Env w Ad) (k : Nat) (h1 : 1 ≤ k) (h2 : k ≤ 18) :
    Calls Tryd.prog 18 #[.int .i64 (k : Int)] w fun e w' => e = .returned (.iface 80 (.pointer (some (Ad k)))) ∧ Below w.heap.size w w' := by
  obtain ⟨j, rfl⟩ : ∃ j, k = j + 1 := ⟨k - 1, by omega⟩
  exact of_some w Ad h j (by omega)
set_option maxHeartbeats 800000 in
theorem new_any (s : ByteArray) (w : World) : Calls Tryd.prog 21 #[.string s] w fun e w' => e = .returned (.iface 80 (.pointer (some ⟨w.heap.size, 0, none⟩))) ∧ w' = w.alloc (.cells #[.string s] 82) := by
  go_enter Tryd.func21, Tryd.ntmps21
  go_wp2
  go_ret
  exact ⟨rfl, rfl⟩
set_option maxHeartbeats 800000 in
set_option maxRecDepth 100000 in
theorem number_foreign (Ad : Nat → Addr) (a : Addr) (w : World) (hE : Env w Ad) (ha : SenK w a) (hne : ∀ k, 1 ≤ k → k ≤ 18 → a ≠ Ad k) :
    Calls Tryd.prog 12 #[.iface 80 (.pointer (some a))] w fun e w' => e = .returned (.int .i64 (-1)) ∧ Below w.heap.size w w' := by
  have HE := hid hE
  have HA := hid ha
  have HN := hid hne
  clear hE ha hne
  go_enter Tryd.func12, Tryd.ntmps12
  go_wp2_with fail
  go_loopw [3] (fun i wr => ∃ k : Nat, k ≤ 18 ∧ i = .int .i64 ((k : Int) + 1) ∧ Below w.heap.size w wr) (fun i _ => 20 - (intOf i).toNat)
  case atStart => exact ⟨0, by omega, rfl, Below.refl _ _⟩
  case round =>
    obtain ⟨k, hk, rfl, hb⟩ := hrel
    have HB := hid hb
    clear hb
    by_cases hlt : k < 18
    · have hki : (k : Int) < 18 := by omega
      have C := has_gen Ad (fun _ => a) (.iface 80 (.pointer (some a))) [([], 1)] 0 wr (HE.out.later HB.out) (fun _ _ _ => HA.out.below HB.out HA.out.lt) (.leaf 0 1 (by decide)) (by decide) k hlt
      rw [decide_eq_false (by rintro ⟨p, -, h⟩; exact HN.out (k + 1) (by omega) (by omega) h)] at C
      have C := hid C
      go_wp2_with fail
      refine C.out.mono ?_
      rintro e w3 ⟨rfl, hb3⟩
      have B3 := hid (HB.out.trans (hb3.mono HB.out.size))
      clear hb3
      go_wp2_with fail
      go_roundw
      case rel => exact ⟨k + 1, by omega, by congr 1, B3.out⟩
      case measure => simp [intOf]; omega
    · have hki : ¬ (k : Int) < 18 := by omega
      go_wp2_with fail
      go_ret
      exact ⟨rfl, HB.out⟩
theorem num_new (Ad : Nat → Addr) (s : ByteArray) (w : World) (hE : Env w Ad) :
    Calls Tryd.prog 12 #[.iface 80 (.pointer (some ⟨w.heap.size, 0, none⟩))] (w.alloc (.cells #[.string s] 82)) fun e w' => e = .returned (.int .i64 (-1)) ∧ Below w.heap.size w w' := by
  have hb : Below w.heap.size w (w.alloc (.cells #[.string s] 82)) := (Below.refl _ _).alloc (Nat.le_refl _) _
  refine (number_foreign Ad ⟨w.heap.size, 0, none⟩ _ (hE.later hb) ⟨_, _, heap_alloc_new w _⟩ ?_).mono ?_
  · intro k h1 h2 e
    have := (hE.sen k h1 h2).lt
    rw [← e] at this
    exact absurd this (Nat.lt_irrefl _)
  · rintro e w' ⟨rfl, h⟩
    exact ⟨rfl, hb.trans (h.mono hb.size)⟩
theorem num_one : ∀ n, n < 19 → 1 ≤ n → numOf [n] = (n : Int) := by decide
theorem num_two : ∀ n, n < 19 → ∀ k, k < 19 → 1 ≤ n → 1 ≤ k → numOf [n, k] = ((min n k : Nat) : Int) := by decide +kernel
theorem rem18 (m : Int) : ∃ (u : Int) (n : Nat), n < 18 ∧ IntKind.u64.wrap m = u ∧ u.tmod 18 = (n : Int) := by
  have h : 0 ≤ IntKind.u64.wrap m := by
    show 0 ≤ m % _
    exact Int.emod_nonneg _ (by decide)
  obtain ⟨n, hn⟩ := Int.eq_ofNat_of_zero_le h
  refine ⟨n, n % 18, Nat.mod_lt _ (by decide), hn, ?_⟩
  rw [show (18 : Int) = ((18 : Nat) : Int) from rfl, ← Int.ofNat_tmod]
def arr19 (Ad : Nat → Addr) : Array Value := (Value.nilIface :: (List.range 18).map fun i => Value.iface 80 (.pointer (some (Ad (i + 1))))).toArray
theorem cell19 (Ad : Nat → Addr) (w : World) (t : TypeId) (k : Nat) (h1 : 1 ≤ k) (h2 : k ≤ 18) : (w.alloc (.cells (arr19 Ad) t)).cell? ⟨w.heap.size, k, none⟩ = some (.iface 80 (.pointer (some (Ad k)))) := by
  rw [cell_of_row _ _ k (arr19 Ad) t (0, 0) (heap_alloc_new w _)]
  obtain ⟨j, rfl⟩ : ∃ j, k = j + 1 := ⟨k - 1, by omega⟩
  have : j < 18 := by omega
  simp [arr19, this]
theorem lit19 (Ad : Nat → Addr) : (#[.nilIface, .iface 80 (.pointer (some (Ad 1))), .iface 80 (.pointer (some (Ad 2))), .iface 80 (.pointer (some (Ad 3))), .iface 80 (.pointer (some (Ad 4))), .iface 80 (.pointer (some (Ad 5))), .iface 80 (.pointer (some (Ad 6))), .iface 80 (.pointer (some (Ad 7))), .iface 80 (.pointer (some (Ad 8))), .iface 80 (.pointer (some (Ad 9))), .iface 80 (.pointer (some (Ad 10))), .iface 80 (.pointer (some (Ad 11))), .iface 80 (.pointer (some (Ad 12))), .iface 80 (.pointer (some (Ad 13))), .iface 80 (.pointer (some (Ad 14))), .iface 80 (.pointer (some (Ad 15))), .iface 80 (.pointer (some (Ad 16))), .iface 80 (.pointer (some (Ad 17))), .iface 80 (.pointer (some (Ad 18)))] : Array Value) = arr19 Ad := rfl
end Go.Proofs.YthmiacpaefjanaaDoor
