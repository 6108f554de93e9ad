/- Frames of spawns, plainly. -/
import Derived.Test.YtnbgjbdbbmpoaaaDoorJoJv
namespace Go.Proofs.YtnbgjbdbbmpoaaaDoor.Jo
open Go.RowKit Go.Shelf Go.Maps
theorem u64_nat (m : Int) : ∃ q : Nat, IntKind.u64.wrap m = (q : Int) := by
  have h : 0 ≤ IntKind.u64.wrap m := by
    show 0 ≤ m % _
    exact Int.emod_nonneg _ (by decide)
  exact Int.eq_ofNat_of_zero_le h
theorem rem_at (m : Int) (n : Nat) (h0 : 0 < n) : ∃ (u : Int) (k : Nat), k < n ∧ IntKind.u64.wrap m = u ∧ u.tmod (n : Int) = (k : Int) := by
  obtain ⟨q, hq⟩ := u64_nat m
  exact ⟨_, q % n, Nat.mod_lt _ h0, hq, by rw [← Int.ofNat_tmod]⟩
/-- How many entries a frame gets. -/
def cq (x : Int) : Nat := (IntKind.u64.wrap x).toNat % 21
theorem cq_lt (x : Int) : cq x < 21 := Nat.mod_lt _ (by decide)
theorem cq_at (x : Int) : ∃ u : Int, IntKind.u64.wrap x = u ∧ u.tmod 21 = (cq x : Int) := by
  obtain ⟨q, hq⟩ := u64_nat x
  refine ⟨_, hq, ?_⟩
  unfold cq
  rw [hq]
  exact (Int.ofNat_tmod q 21).symm
/-- How many entries the first frames got. -/
def gN (cs : List Int) : Nat → Nat
  | 0 => 0
  | i + 1 => gN cs i + cq (cs[i]?.getD 0)
theorem gN_le (cs : List Int) : ∀ i, gN cs i ≤ 20 * i
  | 0 => Nat.le_refl _
  | i + 1 => by have := gN_le cs i; have := cq_lt (cs[i]?.getD 0); simp only [gN]; omega
theorem gN_mono (cs : List Int) {i j : Nat} (h : i ≤ j) : gN cs i ≤ gN cs j := by
  induction h with
  | refl => exact Nat.le_refl _
  | step _ ih => simp only [gN]; omega
def sp (n : Nat) : Ue := en 2 (n : Int) 0 0 0 0
/-- A frame's entries. -/
def rowE (b n : Nat) : List Ue := (List.range n).map fun t => sp (b + t)
theorem rowE_succ (b n : Nat) : rowE b (n + 1) = rowE b n ++ [sp (b + n)] := by simp [rowE, List.range_succ]
theorem rowE_len (b n : Nat) : (rowE b n).length = n := by simp [rowE]
theorem rowE_app (b m n : Nat) : rowE b m ++ rowE (b + m) n = rowE b (m + n) := by
  induction n with
  | zero => simp [rowE]
  | succ n ih => rw [rowE_succ, ← List.append_assoc, ih, ← Nat.add_assoc, rowE_succ, Nat.add_assoc]
/-- The journal behind the first frames. -/
def stF (d : Int) (cs : List Int) (i : Nat) : List (Int × List Ue) := (List.range i).map fun (t : Nat) => (d * (t : Int), rowE (gN cs t) (cq (cs[t]?.getD 0)))
def bgF (cs : List Int) (i : Nat) : List Int := (List.range i).map fun (t : Nat) => (gN cs t : Int)
theorem stF_succ (d : Int) (cs : List Int) (i : Nat) : stF d cs (i + 1) = stF d cs i ++ [(d * (i : Int), rowE (gN cs i) (cq (cs[i]?.getD 0)))] := by simp [stF, List.range_succ]
theorem bgF_succ (cs : List Int) (i : Nat) : bgF cs (i + 1) = bgF cs i ++ [(gN cs i : Int)] := by simp [bgF, List.range_succ]
theorem bgF_len (cs : List Int) (i : Nat) : (bgF cs i).length = i := by simp [bgF]
theorem bgF_at (cs : List Int) {i k : Nat} (h : k < i) : (bgF cs i)[k]? = some (gN cs k : Int) := by simp [bgF, h]
theorem stF_len (d : Int) (cs : List Int) (i : Nat) : (stF d cs i).length = i := by simp [stF]
theorem totP_snoc (p : List (Int × List Ue)) (s : Int × List Ue) : totP (p ++ [s]) = totP p + s.2.length := by simp [totP]
theorem stF_tot (d : Int) (cs : List Int) : ∀ i, totP (stF d cs i) = gN cs i
  | 0 => rfl
  | i + 1 => by rw [stF_succ, totP_snoc, stF_tot d cs i, rowE_len]; rfl
theorem stF_above {d : Int} (hd : 0 < d) (cs : List Int) (i : Nat) : aboveP (stF d cs i) (d * (i : Int)) = true := by
  cases i with
  | zero => rfl
  | succ i =>
    rw [stF_succ]
    unfold aboveP
    simp only [List.getLast?_append, List.getLast?_singleton, Option.some_or, decide_eq_true_eq]
    exact Int.mul_lt_mul_of_pos_left (by omega) hd
theorem belowP_snoc (p : List (Int × List Ue)) (s : Int × List Ue) (x : Int) : belowP (p ++ [s]) x = belowP p x + if s.1 < x then 1 else 0 := by
  unfold belowP
  rw [List.countP_append]
  congr 1
  by_cases h : s.1 < x <;> simp [h]
theorem stF_below {d : Int} (hd : 0 < d) (cs : List Int) (k : Nat) : ∀ i, belowP (stF d cs i) (d * (k : Int)) = min i k
  | 0 => by simp [stF, belowP]
  | i + 1 => by
    rw [stF_succ, belowP_snoc, stF_below hd cs k i]
    by_cases h : i < k
    · rw [if_pos (Int.mul_lt_mul_of_pos_left (by omega) hd)]; omega
    · rw [if_neg (by have : d * (k : Int) ≤ d * (i : Int) := Int.mul_le_mul_of_nonneg_left (by omega) (by omega)
                     simp only; omega)]; omega
theorem stF_marked (d : Int) (cs : List Int) {i k : Nat} (h : k < i) : markedP (stF d cs i) (d * (k : Int)) = true := by
  unfold markedP stF
  rw [List.any_map, List.any_eq_true]
  exact ⟨k, List.mem_range.2 h, by simp⟩
theorem stF_take (d : Int) (cs : List Int) {i k : Nat} (h : k ≤ i) : (stF d cs i).take k = stF d cs k := by
  unfold stF
  rw [← List.map_take, List.take_range, Nat.min_eq_left h]
theorem acc_flat (p : List (Int × List Ue)) : accPl p = (p.map Prod.snd).flatten.reverse := by
  unfold accPl
  rw [List.reverse_flatten, List.map_map, List.map_reverse]
  rfl
theorem stF_flat (d : Int) (cs : List Int) (k : Nat) : ∀ i, (((stF d cs (k + i)).drop k).map Prod.snd).flatten = rowE (gN cs k) (gN cs (k + i) - gN cs k)
  | 0 => by
    rw [List.drop_of_length_le (by rw [stF_len]; omega)]
    simp [rowE]
  | i + 1 => by
    rw [← Nat.add_assoc, stF_succ, List.drop_append_of_le_length (by rw [stF_len]; omega), List.map_append, List.flatten_append, stF_flat d cs k i]
    have hm := gN_mono cs (show k ≤ k + i by omega)
    simp only [List.map_cons, List.map_nil, List.flatten_cons, List.flatten_nil, List.append_nil, gN]
    have e : gN cs (k + i) = gN cs k + (gN cs (k + i) - gN cs k) := by omega
    conv => lhs; rhs; rw [e]
    rw [rowE_app]
    congr 1
    omega
theorem stF_acc (d : Int) (cs : List Int) {i k : Nat} (h : k ≤ i) : accPl ((stF d cs i).drop k) = (rowE (gN cs k) (gN cs i - gN cs k)).reverse := by
  obtain ⟨j, rfl⟩ : ∃ j, i = k + j := ⟨i - k, by omega⟩
  rw [acc_flat, stF_flat]
theorem rowE_rev {b n i : Nat} (h : i < n) : (rowE b n).reverse[i]? = some (sp (b + (n - 1 - i))) := by
  rw [List.getElem?_reverse (by rw [rowE_len]; exact h), rowE_len]
  simp only [rowE, List.getElem?_map]
  rw [List.getElem?_range (by omega)]
  rfl
theorem sp_new (l : List Ue) (n : Nat) : knowsB l (sp n) = false := by simp [knowsB, sp, en]
theorem sp_src (w : World) (n : Nat) : PSrc w (sp n).pv (sp n).ps := .inl ⟨rfl, rfl⟩
theorem sp_ok (n : Nat) (h : n ≤ 1000000) : (sp n).ok := ⟨I64_small (n := (n : Int)) (by omega) (by omega), i64s 0, i64s 0⟩
theorem sp_bare (n : Nat) : (sp n).bare = sp n := rfl
theorem bare_row (b n : Nat) : ∀ u ∈ rowE b n, u.bare = u := by
  intro u hu
  simp only [rowE, List.mem_map] at hu
  obtain ⟨t, -, rfl⟩ := hu
  rfl
/-- A row of numbers as built. -/
theorem ns_new (W : World) : Ns W.heap.size (W.alloc (.cells #[] 3)) (.slice (some ⟨W.heap.size, 0, none⟩) 0 0) [] :=
  World.ownsRow_lit (base := W.heap.size) (e := 3) (size := 1) W #[] 0 (Nat.le_refl _) (Nat.zero_le _) rfl
theorem wrap_mid {n : Int} (h0 : -1000000 ≤ n) (h1 : n ≤ 2147483648) : IntKind.i64.wrap n = n := by
  unfold IntKind.wrap
  simp [IntKind.signed, IntKind.bits]
  omega
theorem IRow.at {W : World} {a : Option Addr} {c : Nat} {xs : List Int} (h : IRow W (.slice a xs.length c) xs) {j : Nat} {x : Int} (hj : xs[j]? = some x) : ∃ b o, a = some ⟨b, o, none⟩ ∧ W.cell? ⟨b, o + j, none⟩ = some (.int .i64 x) := by
  obtain ⟨a2, c2, hv, hl2⟩ := h
  obtain ⟨rfl, rfl⟩ : a = a2 ∧ c = c2 := by simpa using hv
  rcases hl2 with q | ⟨b, o, q1, q2⟩
  · rw [q] at hj; simp at hj
  · exact ⟨b, o, q1, q2 j x hj⟩
end Go.Proofs.YtnbgjbdbbmpoaaaDoor.Jo
