/- A shuffle, plainly; and whether two rows are the same. -/
import Derived.Test.YtbealadcnpheiaaDr
import Derived.Deep.RegionHeld3
namespace Go.Proofs.Ytbealadcnpheiaa
open Go.ChangeShapes Go.WideShapes Go.ChangeAt Go.RowKit
theorem take_next {α : Type} {l : List α} {k : Nat} {s : α} (h : l[k]? = some s) : l.take (k + 1) = l.take k ++ [s] := by
  obtain ⟨hk, rfl⟩ := List.getElem?_eq_some_iff.1 h
  rw [List.take_succ_eq_append_getElem hk]
theorem at_lt {α : Type} (l : List α) (k : Nat) (h : k < l.length) : ∃ s, l[k]? = some s := ⟨l[k], List.getElem?_eq_getElem h⟩
/-- Two numbers of a list change places. -/
def swp (l : List Nat) (i j : Nat) : List Nat := (l.set i (l.getD j 0)).set j (l.getD i 0)
theorem swp_len (l : List Nat) (i j : Nat) : (swp l i j).length = l.length := by simp [swp]
def drawN (s : Int) (b : Nat) : Nat := (drawZ s (b : Int)).toNat
/-- A shuffle, from place k on. -/
def shuf : Nat → Int → List Nat → Int × List Nat
  | 0, s, l => (s, l)
  | k + 1, s, l => shuf k (stepZ s) (swp l (k + 1) (drawN s (k + 2)))
theorem draw_bd (s : Int) (b : Int) (h0 : 0 < b) (h1 : b ≤ 9223372036854775807) : 0 ≤ drawZ s b ∧ drawZ s b < b := by
  have hd := drawn_bd s
  unfold drawZ
  have e : (drawnZ s).tmod b = (drawnZ s) % b := Int.tmod_eq_emod_of_nonneg hd.1
  rw [e]
  have h2 := Int.emod_nonneg (drawnZ s) (show b ≠ 0 by omega)
  have h3 := Int.emod_lt_of_pos (drawnZ s) h0
  rw [s_id _ (by omega) (by omega)]
  exact ⟨h2, h3⟩
theorem drawN_eq (s : Int) (b : Nat) (h0 : 0 < b) (h1 : b ≤ 5000) : drawZ s (b : Int) = (drawN s b : Int) ∧ drawN s b < b := by
  have h := draw_bd s b (by omega) (by omega)
  unfold drawN
  omega
theorem shuf_len : ∀ (k : Nat) (s : Int) (l : List Nat), (shuf k s l).2.length = l.length
  | 0, _, _ => rfl
  | k + 1, s, l => by unfold shuf; rw [shuf_len k, swp_len]
theorem shuf_seed : ∀ (k : Nat) (s : Int) (l : List Nat), -9223372036854775808 ≤ s → s ≤ 9223372036854775807 → (shuf k s l).1 = skipZ s k
  | 0, s, l, h0, h1 => (skip_zero s h0 h1).symm
  | k + 1, s, l, h0, h1 => by
    show (shuf k (skipZ s 1) _).1 = _
    rw [shuf_seed k _ _ (skip_bd _ _).1 (skip_bd _ _).2, skip_skip]
    congr 1; omega
theorem own_some {w : World} {B n c : Nat} {e : TypeId} {ga : Option Addr} {xs : List Value} (h : w.ownsRow B e 1 (.slice ga n c) n xs) (h0 : 0 < n) : ∃ g, ga = some ⟨g, 0, none⟩ ∧ B ≤ g ∧ g < w.heap.size := by
  rcases h.2 with ⟨h1, h2⟩ | ⟨g, cap, cur, h1, h2, h3, h4⟩
  · omega
  · simp only [Value.slice.injEq, true_and] at h1
    exact ⟨g, h1.1, h2, (Array.getElem?_eq_some_iff.1 h3).1⟩
set_option maxHeartbeats 800000 in
set_option maxRecDepth 100000 in
/-- Two rows with the same numbers are the same. -/
theorem same_any (ga gb : Option Addr) (n c d B D : Nat) (l : List Nat) (w : World) (hl : n ≤ 5000)
    (h1 : w.ownsRow B 3 1 (.slice ga n c) n (l.map iv)) (h2 : w.ownsRow D 3 1 (.slice gb n d) n (l.map iv)) :
    Calls Try.prog 14 #[.slice ga n c, .slice gb n d] w fun e w' => e = .returned (.bool true) ∧ Below w.heap.size w w' := by
  have H1 := hid h1
  have H2 := hid h2
  have hln : Hid (l.length = n) := by have := h1.1; show l.length = n; simpa using this
  clear h1 h2
  go_enter Try.func14, Try.ntmps14
  go_wp2_with fail
  go_loopw [5] (fun i wr => ∃ k q : Nat, k ≤ n ∧ i = .int .i64 k ∧ wr = w.drewN q) (fun i _ => n - (intOf i).toNat)
  case atStart => exact ⟨0, 0, Nat.zero_le _, rfl, rfl⟩
  case round =>
    obtain ⟨k, q, hk, rfl, rfl⟩ := hrel
    by_cases hlt : k < n
    · obtain ⟨x, hx⟩ := at_lt l k (by rw [hln.out]; exact hlt)
      obtain ⟨g, rfl, -⟩ := own_some H1.out (by omega)
      obtain ⟨h, rfl, -⟩ := own_some H2.out (by omega)
      have c1 : w.cell? ⟨g, k, none⟩ = some (.int .i64 x) := by rw [H1.out.cellAt k (by omega)]; simp [hx, iv]
      have c2 : w.cell? ⟨h, k, none⟩ = some (.int .i64 x) := by rw [H2.out.cellAt k (by omega)]; simp [hx, iv]
      clear hx
      go_wp2_with fail
      go_quiet (fail)
      go_wp2_with fail
      go_roundw
      case rel => exact ⟨k + 1, _, by omega, by go_num, rfl⟩
      case measure => simp [intOf]; omega
    · go_wp2_with fail
      go_ret
      exact ⟨rfl, Below.drewN (Below.refl _ _) _⟩
end Go.Proofs.Ytbealadcnpheiaa
