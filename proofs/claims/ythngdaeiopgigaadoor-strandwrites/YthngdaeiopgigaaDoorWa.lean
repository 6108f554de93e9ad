/- Contracts of strand's writer: its state, and what the small functions do to it. -/
import Derived.Test.YthngdaeiopgigaaDoorRows
import Derived.Test.YthngdaeiopgigaaDoorSb
import Derived.WalkKit
import Derived.ProofKit
import Derived.OpenShut
import Derived.Outline
import Derived.Deep.QuietTactic
import Derived.BigQuiet
import Derived.WalkLawsBesides
import Derived.WalkSpells
namespace Go.Proofs.YthngdaeiopgigaaDoor
open Go.ChangeShapes Go.WideShapes Go.ChangeAt Go.RowKit

def bv (c : UInt8) : Value := .int .u8 c.toNat
/-- A writer's state: what is written, or what went wrong. -/
inductive WS
  | ok (most : Nat) (l : List UInt8)
  | bad (s : ByteArray) (a : Addr)
def Wr (w : World) (b : Nat) : WS → Prop
  | .ok m l => ∃ v, w.heap[b]? = some (.cells #[.string ⟨#[]⟩, .nilIface, .int .i64 m, v] 66 (0, 0)) ∧ w.ownsRow 0 5 1 v l.length (l.map bv) ∧ v.ownBlock ≠ some b
  | .bad s a => ∃ m v, w.heap[b]? = some (.cells #[.string s, .iface 113 (.pointer (some a)), m, v] 66 (0, 0)) ∧ ∀ k, v.ownBlock = some k → k < w.heap.size
def WS.wrong : WS → Bool | .ok _ _ => false | .bad _ _ => true

theorem Wr.foots {w : World} {b : Nat} {st : WS} (h : Wr w b st) : Foots w b := by
  intro k hk
  cases st with
  | ok m l =>
    obtain ⟨v, hb, ho, _⟩ := h
    rcases hk with rfl | ⟨u, hu, hk⟩
    · exact lt_of_block hb
    · rw [blk_cell hb 3] at hu
      have : v = u := by simpa using hu
      subst this
      exact (ho.lt k hk).2
  | bad s a =>
    obtain ⟨m, v, hb, ho⟩ := h
    rcases hk with rfl | ⟨u, hu, hk⟩
    · exact lt_of_block hb
    · rw [blk_cell hb 3] at hu
      have : v = u := by simpa using hu
      subst this
      exact ho k hk
/-- A writer that no step has touched. -/
theorem Wr.kept {w w' : World} {b : Nat} {st : WS} (h : Wr w b st) (hk : ∀ k, foot w b k → w'.heap[k]? = w.heap[k]?) (hs : w.heap.size ≤ w'.heap.size) : Wr w' b st := by
  cases st with
  | ok m l =>
    obtain ⟨v, hb, ho, hn⟩ := h
    refine ⟨v, (hk b (.inl rfl)).trans hb, ⟨ho.1, ?_⟩, hn⟩
    rcases ho.2 with h2 | ⟨g, cap, cur, hv, hg, hh, r⟩
    · exact .inl h2
    · refine .inr ⟨g, cap, cur, hv, hg, (hk g (.inr ⟨v, ?_, ?_⟩)).trans hh, r⟩
      · rw [blk_cell hb 3]; rfl
      · subst hv; rfl
  | bad s a =>
    obtain ⟨m, v, hb, ho⟩ := h
    exact ⟨m, v, (hk b (.inl rfl)).trans hb, fun k h => Nat.lt_of_lt_of_le (ho k h) hs⟩
theorem Wr.new {w w' : World} {b : Nat} {st : WS} (h : Wr w b st) (hb : Below w.heap.size w w') : Wr w' b st :=
  h.kept (fun k hk => hb.block k (h.foots k hk)) hb.size

set_option maxHeartbeats 400000 in
theorem newWriter_any (m : Int) (w : World) :
    Calls Tryd.prog 11 #[.int .i64 m] w fun e w' => e = .returned (.pointer (some ⟨w.heap.size, 0, none⟩)) ∧ Wr w' w.heap.size (.ok m.toNat []) ∧ Below w.heap.size w w' ∧ ∀ k, foot w' w.heap.size k → w.heap.size ≤ k := by
  have key : ∀ n : Nat, Wr (w.alloc (.cells #[.string ⟨#[]⟩, .nilIface, .int .i64 n, .slice none 0 0] 66)) w.heap.size (.ok n []) ∧ Below w.heap.size w (w.alloc (.cells #[.string ⟨#[]⟩, .nilIface, .int .i64 n, .slice none 0 0] 66)) ∧ ∀ k, foot (w.alloc (.cells #[.string ⟨#[]⟩, .nilIface, .int .i64 n, .slice none 0 0] 66)) w.heap.size k → w.heap.size ≤ k := by
    intro n
    refine ⟨⟨.slice none 0 0, blk_new _ _, World.ownsRow_nil _ _ _ _, by simp [Value.ownBlock]⟩, (Below.refl _ _).alloc (Nat.le_refl _) _, ?_⟩
    rintro k (rfl | ⟨u, hu, hk⟩)
    · exact Nat.le_refl _
    · rw [blk_cell (blk_new _ _) 3] at hu
      have : Value.slice none 0 0 = u := by simpa using hu
      subst this
      simp [Value.ownBlock] at hk
  by_cases h : m < 0
  · have e0 : m.toNat = 0 := by omega
    rw [e0]
    go_enter Tryd.func11, Tryd.ntmps11
    go_wp2
    go_ret
    exact ⟨rfl, key 0⟩
  · obtain ⟨n, rfl⟩ : ∃ n : Nat, m = n := ⟨m.toNat, by omega⟩
    rw [Int.toNat_natCast]
    go_enter Tryd.func11, Tryd.ntmps11
    go_wp2
    go_ret
    exact ⟨rfl, key n⟩
set_option maxHeartbeats 400000 in
theorem wrong_no (b : Nat) (w : World) (h : w.cell? ⟨b, 1, none⟩ = some .nilIface) :
    Calls Tryd.prog 37 #[.pointer (some ⟨b, 0, none⟩)] w fun e w' => e = .returned (.bool false) ∧ w = w' := by
  go_enter Tryd.func37, Tryd.ntmps37
  go_wp2
  go_ret
  exact ⟨rfl, rfl⟩
set_option maxHeartbeats 400000 in
theorem wrong_yes (b : Nat) (a : Addr) (w : World) (h : w.cell? ⟨b, 1, none⟩ = some (.iface 113 (.pointer (some a)))) :
    Calls Tryd.prog 37 #[.pointer (some ⟨b, 0, none⟩)] w fun e w' => e = .returned (.bool true) ∧ w = w' := by
  go_enter Tryd.func37, Tryd.ntmps37
  go_wp2
  go_ret
  exact ⟨rfl, rfl⟩
set_option maxHeartbeats 400000 in
theorem fail_any (b : Nat) (w : World) (s : ByteArray) (t : Nat) (a : Addr) (u0 u1 : Value) (h0 : w.cell? ⟨b, 0, none⟩ = some u0) (h1 : w.cell? ⟨b, 1, none⟩ = some u1) (f0 : w.frozen? ⟨b, 0, none⟩ = false) (f1 : w.frozen? ⟨b, 1, none⟩ = false) :
    Calls Tryd.prog 49 #[.pointer (some ⟨b, 0, none⟩), .string s, .iface t (.pointer (some a))] w fun e w' => e = .returned (.tuple #[]) ∧ w' = (w.setCell ⟨b, 0, none⟩ (.string s)).setCell ⟨b, 1, none⟩ (.iface t (.pointer (some a))) := by
  go_enter Tryd.func49, Tryd.ntmps49
  go_wp2
  go_end0
  exact ⟨rfl, rfl⟩
set_option maxHeartbeats 400000 in
theorem closed_any (b : Nat) (w : World) (st : WS) (h : Wr w b st) :
    Calls Tryd.prog 48 #[.pointer (some ⟨b, 0, none⟩)] w fun e w' => e = .returned (.bool st.wrong) ∧ w = w' := by
  cases st with
  | ok m l =>
    obtain ⟨v, hb, _⟩ := h
    have h1 : w.cell? ⟨b, 1, none⟩ = some .nilIface := blk_cell hb 1
    clear hb
    go_enter Tryd.func48, Tryd.ntmps48
    go_wp2_with (go_at_call 37; refine (wrong_no _ _ ?_).mono ?_; exact h1; rintro e w' ⟨rfl, rfl⟩)
    go_ret
    exact ⟨rfl, rfl⟩
  | bad s a =>
    obtain ⟨m, v, hb, _⟩ := h
    have h1 : w.cell? ⟨b, 1, none⟩ = some (.iface 113 (.pointer (some a))) := blk_cell hb 1
    clear hb
    go_enter Tryd.func48, Tryd.ntmps48
    go_wp2_with (go_at_call 37; refine (wrong_yes _ a _ ?_).mono ?_; exact h1; rintro e w' ⟨rfl, rfl⟩)
    go_ret
    exact ⟨rfl, rfl⟩
set_option maxHeartbeats 400000 in
theorem closed_nil (w : World) :
    Calls Tryd.prog 48 #[.pointer none] w fun e w' => e = .returned (.bool true) ∧ w = w' := by
  go_enter Tryd.func48, Tryd.ntmps48
  go_wp2
  go_ret
  exact ⟨rfl, rfl⟩
end Go.Proofs.YthngdaeiopgigaaDoor
