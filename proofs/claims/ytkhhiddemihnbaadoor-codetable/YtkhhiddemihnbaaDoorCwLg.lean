/- CodeTable: what is known of operations. -/
import Derived.Test.YtkhhiddemihnbaaDoorCwLa
import Derived.Test.YtkhhiddemihnbaaDoorCwLb
namespace Go.Proofs.YtkhhiddemihnbaaDoor.Cw
open Go.RowKit Go.Shelf
theorem lastw_next (s : ByteArray) (k : Nat) : lastw s (k + 1) = if eqS (wordN k) s then ((k : Int), true) else lastw s k := rfl
theorem of_nat {k : Nat} (h : k < 36) (W : World) : Calls Tryd.prog 10 #[.int .i64 (k : Int)] W fun e W' => e = .returned (.tuple #[.agg #[.string (wordN k), .int .i64 (args k), .int .i64 (takes k), .int .i64 (lays k)], .bool true]) ∧ Below W.heap.size W W' := by
  have := of_any (k : Int) W
  unfold opV at this
  rw [word_of h, known_of h] at this
  exact this
theorem beq_no {op k : Int} [h : Nonempty ((op == k) = false)] : (op == k) = false := h.elim id
theorem beq_yes {op k : Int} [h : Nonempty ((op == k) = true)] : (op == k) = true := h.elim id
theorem bne_yes {op k : Int} [h : Nonempty ((op == k) = false)] : (op != k) = true := by
  unfold bne
  rw [beq_no]
  rfl
theorem bne_no {op k : Int} [h : Nonempty ((op == k) = true)] : (op != k) = false := by
  unfold bne
  rw [beq_yes]
  rfl
theorem op_cases (op : Int) : ∃ kb x20 x21 x35 jb ob : Bool, known op = kb ∧ (op == 20) = x20 ∧ (op == 21) = x21 ∧ (op == 35) = x35 ∧ jmp op = jb ∧ onw op = ob ∧
    ((kb = true ∧ x20 = true ∧ x21 = false ∧ x35 = false ∧ jb = true ∧ ob = false) ∨ (kb = true ∧ x20 = false ∧ x21 = true ∧ x35 = false ∧ jb = true ∧ ob = true) ∨ (kb = true ∧ x20 = false ∧ x21 = false ∧ x35 = true ∧ jb = false ∧ ob = false) ∨ (kb = true ∧ x20 = false ∧ x21 = false ∧ x35 = false ∧ jb = false ∧ ob = true) ∨ (kb = false ∧ x20 = false ∧ x21 = false ∧ x35 = false ∧ jb = false ∧ ob = false)) := by
  refine ⟨_, _, _, _, _, _, rfl, rfl, rfl, rfl, rfl, rfl, ?_⟩
  by_cases h1 : op = 20
  · subst h1; decide
  · by_cases h2 : op = 21
    · subst h2; decide
    · by_cases h3 : op = 35
      · subst h3; decide
      · have e1 : (op == 20) = false := beq_eq_false_iff_ne.2 h1
        have e2 : (op == 21) = false := beq_eq_false_iff_ne.2 h2
        have e3 : (op == 35) = false := beq_eq_false_iff_ne.2 h3
        unfold onw jmp
        rw [e1, e2, e3]
        cases known op <;> simp
end Go.Proofs.YtkhhiddemihnbaaDoor.Cw
