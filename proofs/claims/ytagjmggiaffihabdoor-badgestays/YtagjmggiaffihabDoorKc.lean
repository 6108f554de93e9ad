/- Contracts of blame: walk at a sentinel and at a Blame. -/
import Derived.Test.YtagjmggiaffihabDoorKb
import Derived.RangeFuncNested
import Derived.RangeFuncBound
import Derived.RangeFuncCalls
import Derived.Shelf.Abstract
import Derived.OwnWalkIn
import Derived.TacticsInMore
import Derived.Deep.RegionHeldLaw
import Derived.Outline
namespace Go.Proofs.YtagjmggiaffihabDoor
open Go.RowKit Go.Shelf
section
attribute [local go_sem] Oper.semAt_some
theorem noBlame (v : Value) (xT : TypeId) (w : World) : (Instr.typeAssert (.iface 111 v) xT 69 true).run Tryd.prog w = .ok (.tuple #[.pointer none, .bool false]) w := by kernel_rfl
theorem noSeveral (v : Value) (xT : TypeId) (w : World) : (Instr.typeAssert (.iface 111 v) xT 74 true).run Tryd.prog w = .ok (.tuple #[.pointer none, .bool false]) w := by kernel_rfl
theorem isBlameT (v : Value) (xT : TypeId) (w : World) : (Instr.typeAssert (.iface 69 v) xT 69 true).run Tryd.prog w = .ok (.tuple #[v, .bool true]) w := by kernel_rfl
end
theorem new_cell (w : World) (x : Value) (e : TypeId) : (w.alloc (.cells #[x] e)).cell? ⟨w.heap.size, 0, none⟩ = some x := by
  have h := heap_alloc_new w (.cells #[x] e)
  unfold World.cell?; rw [show (⟨w.heap.size, 0, none⟩ : Addr).block = w.heap.size from rfl, h]; rfl
theorem Turn.cell {P : Obj → Prop} {B : Nat} {w w' : World} (h : Turn P B w w') {p : Addr} {x : Value} (hc : w.cell? p = some x) (hp : p.block < B) : w'.cell? p = some x := by
  have hlt := World.block_lt_of_cell? w p hc
  have hb := h.block p.block _ (Array.getElem?_eq_getElem hlt) (.inl hp)
  rw [World.cell?_of_block (w := w) (hb.trans (Array.getElem?_eq_getElem hlt).symm)]; exact hc
/-- A sentinel inside Blames. -/
def Ch (Ad : Nat → Addr) (n₀ : Nat) (W : World) (k : Nat) : List ByteArray → Value → Prop
  | [], v => v = .iface 111 (.pointer (some (Ad k)))
  | s :: ws, v => ∃ b inner, v = .iface 69 (.pointer (some ⟨b, 0, none⟩)) ∧ b < n₀ ∧ W.cell? ⟨b, 0, none⟩ = some (.string s) ∧ W.cell? ⟨b, 1, none⟩ = some inner ∧ Ch Ad n₀ W k ws inner
theorem Ch.below {Ad : Nat → Addr} {n₀ k : Nat} {W W' : World} (h : Below n₀ W W') : ∀ {ws : List ByteArray} {v : Value}, Ch Ad n₀ W k ws v → Ch Ad n₀ W' k ws v
  | [], _, hc => hc
  | _ :: _, _, ⟨b, inner, hv, hb, c0, c1, hi⟩ => ⟨b, inner, hv, hb, (h.cell (p := ⟨b, 0, none⟩) hb).trans c0, (h.cell (p := ⟨b, 1, none⟩) hb).trans c1, Ch.below h hi⟩
theorem Ch.wider {Ad : Nat → Addr} {n₀ n₁ k : Nat} {W : World} (h : n₀ ≤ n₁) : ∀ {ws : List ByteArray} {v : Value}, Ch Ad n₀ W k ws v → Ch Ad n₁ W k ws v
  | [], _, hc => hc
  | _ :: _, _, ⟨b, inner, hv, hb, c0, c1, hi⟩ => ⟨b, inner, hv, by omega, c0, c1, Ch.wider h hi⟩
/-- What a round is handed: the trail as it lies, what it says, the number of the sentinel. -/
structure Lf where
  tv : Value
  ts : List ByteArray
  k : Nat
def encs (Ad : Nat → Addr) (x : Lf) : Array Value := #[x.tv, .iface 111 (.pointer (some (Ad x.k)))]
def Lf.pair (x : Lf) : List ByteArray × Nat := (x.ts, x.k)
def Handed (B : Nat) (full : List (List ByteArray × Nat)) (pre : List Lf) (x : Lf) (W : World) : Prop := Trail B W x.tv x.ts ∧ 1 ≤ x.k ∧ x.k ≤ 18 ∧ pre.map Lf.pair ++ [x.pair] <+: full
def isErr (o : Obj) : Prop := ∃ cur, o = .cells cur 31 (0, 0)
/-- What a round may do: rows of texts and of errors lie as they lay. -/
def Kp (n₀ : Nat) (A B : World) : Prop := Turn (fun o => ¬ isKept o) n₀ A B
/-- The word of yield. -/
def Yields (Ad : Nat → Addr) (l B n₀ : Nat) (full : List (List ByteArray × Nat)) (J Jx : List Lf → World → Prop) : Prop := ∀ n pre x W, J pre W → Handed B full pre x W → YieldAt Fence.wide n Tryd.prog l (encs Ad x) W fun e W' =>
  (e = .returned (.bool true) ∧ J (pre ++ [x]) W' ∧ Kp n₀ W W') ∨ (e = .returned (.bool false) ∧ Jx (pre ++ [x]) W' ∧ Below n₀ W W')
/-- The walk goes on, or has been left. -/
def Went (B n₀ : Nat) (J Jx : List Lf → World → Prop) (m : Nat) (pre : List Lf) (ls : List (List ByteArray × Nat)) (W : World) (r : Bool) (W' : World) : Prop :=
  (r = true → (∃ xs, xs.map Lf.pair = ls ∧ J (pre ++ xs) W') ∧ Olds B m W W' ∧ Turn (fun o => ¬ isErr o) n₀ W W') ∧
  (r = false → ∃ xs, xs.map Lf.pair <+: ls ∧ Jx (pre ++ xs) W')
theorem kept_err (o : Obj) (h : ¬ isKept o) : ¬ isErr o := fun ⟨cur, e⟩ => h ⟨cur, .inr e⟩
theorem row_err (o : Obj) (h : isRow o) : ¬ isErr o := fun ⟨cur, e⟩ => by obtain ⟨c, rfl⟩ := h; cases e
theorem wideN {m : Nat} (m' : Nat) {l : Nat} {args : Array Value} {W : World} {R : Ending → World → Prop} (h : YieldAt Fence.wide m Tryd.prog l args W R) : YieldAt Fence.wide m' Tryd.prog l args W R := by
  obtain ⟨fn, tmps, assign, body, hy, hR⟩ := h
  exact ⟨fn, tmps, assign, body, hy, hR.1, fun c cs _ => hR.2 c cs (fun d h => by cases h)⟩
end Go.Proofs.YtagjmggiaffihabDoor
