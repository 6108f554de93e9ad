/- The document's Check plainly; whether a number is a component's. -/
import Derived.Test.YtkhhiddemihnbaaDoorCwRc
import Derived.Test.YtkhhiddemihnbaaDoorCwCf
namespace Go.Proofs.YtkhhiddemihnbaaDoor.Cw
open Go.RowKit Go.Shelf
def rok (cs : List Cmp) (rs : List Rsc) (m : Nat) (x : Ins) : Bool :=
  if x.1 == 20 || x.1 == 21 then isPl x.2.1 m
  else if x.1 == 22 then inN x.2.1 cs.length && rolled cs x.2.1
  else if x.1 == 23 then inN x.2.1 cs.length
  else if x.1 == 24 then inN x.2.1 cs.length && rolled cs x.2.1
  else if x.1 == 25 then inN x.2.1 2
  else if x.1 == 26 || x.1 == 27 then inN x.2.1 rs.length
  else if x.1 == 31 then isSet cs x.2.1
  else if x.1 == 33 || x.1 == 34 then inN x.2.1 cs.length
  else true
def rcell (cs : List Cmp) (rs : List Rsc) (m : Nat) (x : Ins) : Bool := (x.1 == 22 || x.1 == 23) && rok cs rs m x
def rnum (x : Ins) : Nat := if x.1 == 20 || x.1 == 21 then 13 else 1
theorem args_of {op : Int} (hk : known op = true) : (args op = 0 ∧ ¬ (op = 1 ∨ op = 20 ∨ op = 21 ∨ op = 22 ∨ op = 23 ∨ op = 24 ∨ op = 25 ∨ op = 26 ∨ op = 27 ∨ op = 31 ∨ op = 33 ∨ op = 34)) ∨ (args op = 1 ∧ (op = 1 ∨ op = 20 ∨ op = 21 ∨ op = 24 ∨ op = 25 ∨ op = 26 ∨ op = 27 ∨ op = 31 ∨ op = 33 ∨ op = 34)) ∨ (args op = 2 ∧ (op = 22 ∨ op = 23)) := by
  obtain ⟨k, rfl, h36⟩ := known_nat hk
  have e : args (k : Int) = argsT.getD k 0 := by unfold args num; rw [hk]; rfl
  rw [e]
  have h : ∀ k : Nat, k < 36 → (argsT.getD k 0 = 0 ∧ ¬ (k = 1 ∨ k = 20 ∨ k = 21 ∨ k = 22 ∨ k = 23 ∨ k = 24 ∨ k = 25 ∨ k = 26 ∨ k = 27 ∨ k = 31 ∨ k = 33 ∨ k = 34)) ∨ (argsT.getD k 0 = 1 ∧ (k = 1 ∨ k = 20 ∨ k = 21 ∨ k = 24 ∨ k = 25 ∨ k = 26 ∨ k = 27 ∨ k = 31 ∨ k = 33 ∨ k = 34)) ∨ (argsT.getD k 0 = 2 ∧ (k = 22 ∨ k = 23)) := by decide
  rcases h k h36 with ⟨h1, h2⟩ | ⟨h1, h2⟩ | ⟨h1, h2⟩
  · exact .inl ⟨h1, by omega⟩
  · exact .inr (.inl ⟨h1, by omega⟩)
  · exact .inr (.inr ⟨h1, by omega⟩)
theorem aNs_of {cs : List Cmp} {rs : List Rsc} {m : Nat} {x : Ins} (hk : known x.1 = true) : aNs cs rs m x = if rok cs rs m x then (if args x.1 < 1 then (if x.2.1 == 0 then [] else [1]) else []) else [rnum x] := by
  obtain ⟨op, a, b⟩ := x
  simp only [] at hk ⊢
  rcases args_of hk with ⟨h1, h2⟩ | ⟨h1, h2⟩ | ⟨h1, h2⟩
  · rw [h1]
    have e : ∀ k : Int, (k = 1 ∨ k = 20 ∨ k = 21 ∨ k = 22 ∨ k = 23 ∨ k = 24 ∨ k = 25 ∨ k = 26 ∨ k = 27 ∨ k = 31 ∨ k = 33 ∨ k = 34) → (op == k) = false := fun k hk => by
      simp
      rintro rfl
      exact h2 hk
    have ej : jmp op = false := by unfold jmp; rw [e 20 (by omega), e 21 (by omega)]; rfl
    unfold aNs aOk rok
    simp only [e 1 (by omega), e 20 (by omega), e 21 (by omega), e 22 (by omega), e 23 (by omega), e 24 (by omega), e 25 (by omega), e 26 (by omega), e 27 (by omega), e 31 (by omega), e 33 (by omega), e 34 (by omega), ej]
    simp
  · rw [h1]
    rcases h2 with rfl | rfl | rfl | rfl | rfl | rfl | rfl | rfl | rfl | rfl <;> simp [aNs, aOk, rok, rnum, jmp]
  · rw [h1]
    rcases h2 with rfl | rfl <;> simp [aNs, aOk, rok, rnum, jmp]
theorem bNs_of {cs : List Cmp} {rs : List Rsc} {m : Nat} {x : Ins} (hk : known x.1 = true) : bNs cs rs m x = if rcell cs rs m x then (if inW x.2.2 (widthOf cs x.2.1) then [] else [1]) else if args x.1 < 2 then (if x.2.2 == 0 then [] else [1]) else [] := by
  obtain ⟨op, a, b⟩ := x
  simp only [] at hk ⊢
  rcases args_of hk with ⟨h1, h2⟩ | ⟨h1, h2⟩ | ⟨h1, h2⟩
  · have e : (op == 22) = false ∧ (op == 23) = false := by simp; omega
    unfold bNs bOk rcell
    simp only [h1, e.1, e.2]
    simp
  · have e : (op == 22) = false ∧ (op == 23) = false := by simp; omega
    unfold bNs bOk rcell
    simp only [h1, e.1, e.2]
    simp
  · have ea : aOk cs rs m (op, a, b) = rok cs rs m (op, a, b) := by
      rcases h2 with rfl | rfl <;> simp [aOk, rok, jmp]
    have e2 : (op == 22 || op == 23) = true := by simp; omega
    unfold bNs bOk rcell inW
    simp only [h1, ea, e2, Bool.true_and]
    cases rok cs rs m (op, a, b) <;> simp
theorem rok_args {cs : List Cmp} {rs : List Rsc} {m : Nat} {x : Ins} (hk : known x.1 = true) (h : rok cs rs m x = false) : ¬ args x.1 < 1 := by
  intro ha
  obtain ⟨op, a, b⟩ := x
  simp only [] at hk ha
  rcases args_of hk with ⟨h1, h2⟩ | ⟨h1, h2⟩ | ⟨h1, h2⟩
  · have e : ∀ k : Int, (k = 1 ∨ k = 20 ∨ k = 21 ∨ k = 22 ∨ k = 23 ∨ k = 24 ∨ k = 25 ∨ k = 26 ∨ k = 27 ∨ k = 31 ∨ k = 33 ∨ k = 34) → (op == k) = false := fun k hk => by
      simp
      rintro rfl
      exact h2 hk
    unfold rok at h
    simp only [e 20 (by omega), e 21 (by omega), e 22 (by omega), e 23 (by omega), e 24 (by omega), e 25 (by omega), e 26 (by omega), e 27 (by omega), e 31 (by omega), e 33 (by omega), e 34 (by omega)] at h
    simp at h
  · omega
  · omega
theorem rcell_args {cs : List Cmp} {rs : List Rsc} {m : Nat} {x : Ins} (hk : known x.1 = true) (h : rcell cs rs m x = true) : args x.1 = 2 ∧ inN x.2.1 cs.length = true := by
  obtain ⟨op, a, b⟩ := x
  simp only [] at hk ⊢
  unfold rcell at h
  simp only [Bool.and_eq_true, Bool.or_eq_true, beq_iff_eq] at h
  obtain ⟨h1, h2⟩ := h
  rcases h1 with rfl | rfl <;> (simp [rok] at h2; refine ⟨rfl, ?_⟩)
  · exact h2.1
  · exact h2
def compB (cs : List Cmp) (a : Int) (q : Bool) : Bool := if q then inN a cs.length && rolled cs a else inN a cs.length
set_option maxHeartbeats 1600000 in
theorem comp_any (W : World) (va vb : Value) (cs : List Cmp) (n : Int) (q : Bool) (hC : CmpRow W va cs) (hl : cs.length ≤ 1000) :
    Calls Tryd.prog 34 #[.agg #[va, vb], .int .i64 n, .bool q] W fun e W' => e = .returned (.bool (compB cs n q)) ∧ Below W.heap.size W W' := by
  obtain ⟨a, c, rfl, -, hlay⟩ := hC
  have BA : Hid (Below W.heap.size W (W.alloc (.cells #[.slice a cs.length c, vb] 39))) := bAl _ _
  have hli : (cs.length : Int) ≤ 1000 := by omega
  by_cases h0 : 0 ≤ n
  · by_cases h1 : n < (cs.length : Int)
    · obtain ⟨j, rfl⟩ : ∃ j : Nat, n = (j : Int) := ⟨n.toNat, by omega⟩
      have hj : j < cs.length := by omega
      obtain ⟨x, hx⟩ := at_lt cs j hj
      rcases hlay with hn | ⟨b, o, rfl, hc⟩
      · rw [hn] at hx
        simp at hx
      obtain ⟨-, -, c2, -, -, -, -⟩ := hc j x hx
      have hb : b < W.heap.size := World.block_lt_of_cell? W _ c2
      have hbn : ¬ (b = W.heap.size) := by omega
      have e1 : inN (j : Int) cs.length = true := by unfold inN; simp [hj]
      have e2 : compB cs (j : Int) q = if q then x.rb else true := by
        unfold compB rolled
        rw [e1, Int.toNat_natCast, hx]
        cases q <;> rfl
      rw [e2]
      obtain ⟨s, wd, rb, d0, d1, d2, d3⟩ := x
      simp only [] at c2 ⊢
      clear hc hx e1 e2
      cases q
      all_goals
        go_enter Tryd.func34, Tryd.ntmps34
        go_wp2_with fail
        go_ret
        exact ⟨rfl, BA.out⟩
    · have e2 : compB cs n q = false := by
        unfold compB inN
        cases q <;> simp [h1]
      rw [e2]
      clear e2 hlay
      go_enter Tryd.func34, Tryd.ntmps34
      go_wp2_with fail
      go_ret
      exact ⟨rfl, BA.out⟩
  · have e2 : compB cs n q = false := by
      unfold compB inN
      cases q <;> simp [h0]
    rw [e2]
    clear e2 hlay
    go_enter Tryd.func34, Tryd.ntmps34
    go_wp2_with fail
    go_ret
    exact ⟨rfl, BA.out⟩
end Go.Proofs.YtkhhiddemihnbaaDoor.Cw
