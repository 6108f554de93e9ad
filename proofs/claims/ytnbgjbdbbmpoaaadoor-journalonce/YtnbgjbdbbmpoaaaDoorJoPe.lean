/- The five entries of JournalOnce, plainly. -/
import Derived.Test.YtnbgjbdbbmpoaaaDoorJoPa
namespace Go.Proofs.YtnbgjbdbbmpoaaaDoor.Jo
open Go.RowKit Go.Shelf Go.Maps
def es5 (id c n : Int) : List Ue := [en 1 id c 1 0 0, en 6 0 0 0 n 1, en 7 0 0 0 0 1, en 8 0 0 0 0 1, en 9 0 0 0 0 1]
/-- An entry a while later. -/
def shE (y : Ue) (i : Int) : Ue := ⟨y.k, y.id, ⟨y.p.c, y.p.v0, y.p.v1, y.p.v2, y.p.v3, y.p.t + i⟩, y.pv, y.ps, y.n, y.o + i⟩
theorem shE_0 (y : Ue) : shE y 0 = y := by simp [shE]
/-- What a frame holds within its rounds. -/
def ls5 (id c n : Int) (i k : Nat) : List Ue := if i = 0 then (es5 id c n).take k else es5 id c n
theorem ls5_end (id c n : Int) (i : Nat) : ls5 id c n i 5 = es5 id c n := by unfold ls5; split <;> rfl
theorem ls5_next (id c n : Int) (i : Nat) : ls5 id c n (i + 1) 0 = es5 id c n := by unfold ls5; rw [if_neg (by omega)]
theorem es5_at {id c n : Int} {k : Nat} {y : Ue} (h : (es5 id c n)[k]? = some y) : (k = 0 ∧ y = en 1 id c 1 0 0) ∨ (k = 1 ∧ y = en 6 0 0 0 n 1) ∨ (k = 2 ∧ y = en 7 0 0 0 0 1) ∨ (k = 3 ∧ y = en 8 0 0 0 0 1) ∨ (k = 4 ∧ y = en 9 0 0 0 0 1) := by
  match k, h with
  | 0, h => left; exact ⟨rfl, by simpa [es5] using h.symm⟩
  | 1, h => right; left; exact ⟨rfl, by simpa [es5] using h.symm⟩
  | 2, h => right; right; left; exact ⟨rfl, by simpa [es5] using h.symm⟩
  | 3, h => right; right; right; left; exact ⟨rfl, by simpa [es5] using h.symm⟩
  | 4, h => right; right; right; right; exact ⟨rfl, by simpa [es5] using h.symm⟩
  | k + 5, h => simp [es5] at h
theorem es5_new {id c n : Int} {k : Nat} {y : Ue} (h : (es5 id c n)[k]? = some y) : knowsB ((es5 id c n).take k) y = false := by
  rcases es5_at h with ⟨rfl, rfl⟩ | ⟨rfl, rfl⟩ | ⟨rfl, rfl⟩ | ⟨rfl, rfl⟩ | ⟨rfl, rfl⟩ <;> simp [knowsB, toldB, es5, en, aboutM]
theorem es5_old {id c n : Int} {k : Nat} {y : Ue} (h : (es5 id c n)[k]? = some y) (i : Int) : knowsB (es5 id c n) (shE y i) = true := by
  rcases es5_at h with ⟨rfl, rfl⟩ | ⟨rfl, rfl⟩ | ⟨rfl, rfl⟩ | ⟨rfl, rfl⟩ | ⟨rfl, rfl⟩ <;> simp [knowsB, toldB, es5, en, aboutM, shE]
theorem es5_form {id c n : Int} {k : Nat} {y : Ue} (h : (es5 id c n)[k]? = some y) : y.pv = .slice none 0 0 ∧ y.ps = [] ∧ 1 ≤ y.k ∧ y.k ≤ 9 ∧ 0 ≤ y.p.t ∧ y.p.t ≤ 1 ∧ 0 ≤ y.o ∧ y.o ≤ 1 ∧ y.bare = y := by
  rcases es5_at h with ⟨rfl, rfl⟩ | ⟨rfl, rfl⟩ | ⟨rfl, rfl⟩ | ⟨rfl, rfl⟩ | ⟨rfl, rfl⟩ <;> simp [en, Ue.bare]
theorem es5_ok {id c n : Int} (h1 : I64 id) (h2 : I64 c) (h3 : I64 n) {k : Nat} {y : Ue} (h : (es5 id c n)[k]? = some y) (i : Int) : (shE y i).ok := by
  rcases es5_at h with ⟨rfl, rfl⟩ | ⟨rfl, rfl⟩ | ⟨rfl, rfl⟩ | ⟨rfl, rfl⟩ | ⟨rfl, rfl⟩
  · exact ⟨h1, h2, i64s 0⟩
  · exact ⟨i64s 0, i64s 0, h3⟩
  · exact ⟨i64s 0, i64s 0, i64s 0⟩
  · exact ⟨i64s 0, i64s 0, i64s 0⟩
  · exact ⟨i64s 0, i64s 0, i64s 0⟩
theorem es5_bare (id c n : Int) : (es5 id c n).map Ue.bare = es5 id c n := rfl
theorem es5_rev {id c n : Int} {k : Nat} (h : k < 5) : (es5 id c n).reverse[k]? = (es5 id c n)[4 - k]? := by
  rw [List.getElem?_reverse (by simpa [es5] using h)]
  rfl
/-- The frames that are over. -/
def pf5 (id c n : Int) (f : Nat) : List (Int × List Ue) := (List.range f).map fun (t : Nat) => ((t : Int), es5 id c n)
theorem pf5_succ (id c n : Int) (f : Nat) : pf5 id c n (f + 1) = pf5 id c n f ++ [((f : Int), es5 id c n)] := by simp [pf5, List.range_succ]
theorem pf5_len (id c n : Int) (f : Nat) : (pf5 id c n f).length = f := by simp [pf5]
theorem pf5_tot (id c n : Int) : ∀ f, totP (pf5 id c n f) = 5 * f
  | 0 => rfl
  | f + 1 => by
    have e : totP (pf5 id c n f ++ [((f : Int), es5 id c n)]) = totP (pf5 id c n f) + 5 := by simp [totP, es5]
    rw [pf5_succ, e, pf5_tot id c n f]; omega
theorem pf5_above (id c n : Int) (f : Nat) : aboveP (pf5 id c n f) (f : Int) = true := by
  cases f with
  | zero => rfl
  | succ f =>
    rw [pf5_succ]
    unfold aboveP
    simp only [List.getLast?_append, List.getLast?_singleton, Option.some_or, decide_eq_true_eq]
    omega
theorem pf5_below (id c n : Int) (x : Nat) : ∀ f, f ≤ x → belowP (pf5 id c n f) (x : Int) = f
  | 0, _ => by simp [pf5, belowP]
  | f + 1, h => by
    rw [pf5_succ, belowP_snoc, pf5_below id c n x f (by omega), if_pos (by simp only; omega)]
theorem pf5_at (id c n : Int) (f : Nat) : belowP (pf5 id c n (f + 1)) (f : Int) = f := by
  rw [pf5_succ, belowP_snoc, pf5_below id c n f f (Nat.le_refl _), if_neg (by simp), Nat.add_zero]
theorem pf5_marked (id c n : Int) (f : Nat) : markedP (pf5 id c n (f + 1)) (f : Int) = true := by
  rw [pf5_succ]
  unfold markedP
  simp
theorem pf5_acc (id c n : Int) (f : Nat) : accPl ((pf5 id c n (f + 1)).drop f) = (es5 id c n).reverse := by
  rw [pf5_succ, List.drop_append_of_le_length (by rw [pf5_len]; omega), List.drop_of_length_le (by rw [pf5_len]; omega)]
  simp [accPl]
theorem once_note {W1 w : World} {jb : Nat} {id c n : Int} (h1 : I64 id) (h2 : I64 c) (h3 : I64 n) {f i k : Nat} {y : Ue} (hf : f ≤ 1) (h : Wj W1 jb 100 (pf5 id c n f ++ [((f : Int), ls5 id c n i k)]) w) (hy : (es5 id c n)[k]? = some y) :
    Calls Tryd.prog 14 #[.pointer (some ⟨jb, 0, none⟩), .agg #[.int .i64 y.k, .int .i64 y.id, .int .i64 y.p.c, .int .i64 y.p.v0, .int .i64 y.p.v1, .int .i64 y.p.v2, .int .i64 y.p.v3, .int .i64 (y.p.t + (i : Int)), y.pv, .int .i64 y.n, .int .i64 (y.o + (i : Int))]] w fun e w' => e = .returned .nilIface ∧ Wj W1 jb 100 (pf5 id c n f ++ [((f : Int), ls5 id c n i (k + 1))]) w' := by
  obtain ⟨q1, q2, q3, q4, -, -, -, -, q9⟩ := es5_form hy
  have hk5 : k < 5 := by have := (List.getElem?_eq_some_iff.1 hy).1; simpa [es5] using this
  by_cases hi : i = 0
  · subst hi
    have e0 : ls5 id c n 0 (k + 1) = ls5 id c n 0 k ++ [y] := by
      unfold ls5
      rw [if_pos rfl, if_pos rfl, List.take_add_one, hy]
      rfl
    have hn : knowsB (ls5 id c n 0 k) y = false := by unfold ls5; rw [if_pos rfl]; exact es5_new hy
    have ok := es5_ok h1 h2 h3 hy 0
    rw [shE_0] at ok
    have ht : totP (pf5 id c n f ++ [((f : Int), ls5 id c n 0 k)]) < 100 := by
      rw [totP_snoc, pf5_tot]
      have : (ls5 id c n 0 k).length ≤ 5 := by unfold ls5; rw [if_pos rfl, List.length_take]; simp [es5]; omega
      simp only
      omega
    have := wj_note h y ok q3 q4 (.inl ⟨q1, q2⟩) (by rw [q2]; decide) hn ht
    rw [q9, ← e0] at this
    have e1 : y.p.t + ((0 : Nat) : Int) = y.p.t := by simp
    have e2 : y.o + ((0 : Nat) : Int) = y.o := by simp
    rw [e1, e2]
    exact this.mono fun _ _ z => ⟨z.1, z.2.1⟩
  · have e0 : ∀ k, ls5 id c n i k = es5 id c n := fun k => by unfold ls5; rw [if_neg hi]
    rw [e0] at h ⊢
    have := wj_old h (shE y (i : Int)) (es5_ok h1 h2 h3 hy _) q3 q4 ⟨_, _, _, q1⟩ (es5_old hy _)
    exact this.mono fun _ _ z => ⟨z.1, h.later z.2⟩
/-- The row of the five in memory. -/
theorem es5_row (id c n : Int) (W : World) : Us W.heap.size (W.alloc (.cells #[.int .i64 1, .int .i64 id, .int .i64 c, .int .i64 0, .int .i64 0, .int .i64 0, .int .i64 0, .int .i64 1, .slice none 0 0, .int .i64 0, .int .i64 0,
    .int .i64 6, .int .i64 0, .int .i64 0, .int .i64 0, .int .i64 0, .int .i64 0, .int .i64 0, .int .i64 0, .slice none 0 0, .int .i64 n, .int .i64 1,
    .int .i64 7, .int .i64 0, .int .i64 0, .int .i64 0, .int .i64 0, .int .i64 0, .int .i64 0, .int .i64 0, .slice none 0 0, .int .i64 0, .int .i64 1,
    .int .i64 8, .int .i64 0, .int .i64 0, .int .i64 0, .int .i64 0, .int .i64 0, .int .i64 0, .int .i64 0, .slice none 0 0, .int .i64 0, .int .i64 1,
    .int .i64 9, .int .i64 0, .int .i64 0, .int .i64 0, .int .i64 0, .int .i64 0, .int .i64 0, .int .i64 0, .slice none 0 0, .int .i64 0, .int .i64 1] 38)) (.slice (some ⟨W.heap.size, 0, none⟩) 5 5) (es5 id c n) := by
  refine ⟨World.ownsRow_lit (base := W.heap.size) (e := 38) (size := 11) W #[.int .i64 1, .int .i64 id, .int .i64 c, .int .i64 0, .int .i64 0, .int .i64 0, .int .i64 0, .int .i64 1, .slice none 0 0, .int .i64 0, .int .i64 0,
    .int .i64 6, .int .i64 0, .int .i64 0, .int .i64 0, .int .i64 0, .int .i64 0, .int .i64 0, .int .i64 0, .slice none 0 0, .int .i64 n, .int .i64 1,
    .int .i64 7, .int .i64 0, .int .i64 0, .int .i64 0, .int .i64 0, .int .i64 0, .int .i64 0, .int .i64 0, .slice none 0 0, .int .i64 0, .int .i64 1,
    .int .i64 8, .int .i64 0, .int .i64 0, .int .i64 0, .int .i64 0, .int .i64 0, .int .i64 0, .int .i64 0, .slice none 0 0, .int .i64 0, .int .i64 1,
    .int .i64 9, .int .i64 0, .int .i64 0, .int .i64 0, .int .i64 0, .int .i64 0, .int .i64 0, .int .i64 0, .slice none 0 0, .int .i64 0, .int .i64 1] 5 (Nat.le_refl _) (by decide) rfl, fun u hu => ?_⟩
  obtain ⟨k, hk⟩ := List.getElem?_of_mem hu
  obtain ⟨q1, q2, -⟩ := es5_form hk
  unfold Prts
  rw [q1, q2]
  exact World.ownsRow_nil _ _ _ _
theorem Us.row5 {W1 w : World} {jb most B : Nat} {p : List (Int × List Ue)} {g : Nat} {l : List Ue} (hU : Us B W1 (.slice (some ⟨g, 0, none⟩) 5 5) l) (h : Wj W1 jb most p w) (hg : g ≠ jb) (hl : ∀ u ∈ l, u.pv = .slice none 0 0) : Us B w (.slice (some ⟨g, 0, none⟩) 5 5) l :=
  hU.kept h.2 (fun k hk q => hg (by rw [← q]; simpa [Value.ownBlock] using hk)) fun u hu k hk _ => by rw [hl u hu] at hk; simp [Value.ownBlock] at hk
end Go.Proofs.YtnbgjbdbbmpoaaaDoor.Jo
