/- Contracts of blame: Of. -/
import Derived.Test.YtagjmggiaffihabDoorKe
namespace Go.Proofs.YtagjmggiaffihabDoor
open Go.RowKit Go.Shelf
/-- The variable of a number. -/
def gv (k : Nat) : Nat := if k = 1 then 1 else if k = 2 then 2 else if k = 6 then 3 else if k = 7 then 4 else if k = 9 then 0 else k - 1
/-- The eighteen sentinels. -/
structure Env (w : World) (Ad : Nat → Addr) : Prop where
  cell : ∀ k, 1 ≤ k → k ≤ 18 → w.cell? ⟨gv k, 0, none⟩ = some (.iface 111 (.pointer (some (Ad k))))
  sen : ∀ k, 1 ≤ k → k ≤ 18 → SenK w (Ad k)
  inj : ∀ i j, 1 ≤ i → i ≤ 18 → 1 ≤ j → j ≤ 18 → Ad i = Ad j → i = j
theorem Env.below {w w' : World} {Ad : Nat → Addr} {B : Nat} (h : Env w Ad) (hb : Below B w w') (hB : w.heap.size ≤ B) : Env w' Ad :=
  ⟨fun k h1 h2 => (hb.cell (p := ⟨gv k, 0, none⟩) (Nat.lt_of_lt_of_le (World.block_lt_of_cell? w _ (h.cell k h1 h2)) hB)).trans (h.cell k h1 h2), fun k h1 h2 => (h.sen k h1 h2).below hb (Nat.lt_of_lt_of_le (h.sen k h1 h2).lt hB), h.inj⟩
theorem Env.later {w w' : World} {Ad : Nat → Addr} (h : Env w Ad) (hb : Below w.heap.size w w') : Env w' Ad := h.below hb (Nat.le_refl _)
def arr18 (Ad : Nat → Addr) : Array Value := ((List.range 18).map fun i => Value.iface 111 (.pointer (some (Ad (i + 1))))).toArray
theorem lit18 (Ad : Nat → Addr) : (#[.iface 111 (.pointer (some (Ad 1))), .iface 111 (.pointer (some (Ad 2))), .iface 111 (.pointer (some (Ad 3))), .iface 111 (.pointer (some (Ad 4))), .iface 111 (.pointer (some (Ad 5))), .iface 111 (.pointer (some (Ad 6))), .iface 111 (.pointer (some (Ad 7))), .iface 111 (.pointer (some (Ad 8))), .iface 111 (.pointer (some (Ad 9))), .iface 111 (.pointer (some (Ad 10))), .iface 111 (.pointer (some (Ad 11))), .iface 111 (.pointer (some (Ad 12))), .iface 111 (.pointer (some (Ad 13))), .iface 111 (.pointer (some (Ad 14))), .iface 111 (.pointer (some (Ad 15))), .iface 111 (.pointer (some (Ad 16))), .iface 111 (.pointer (some (Ad 17))), .iface 111 (.pointer (some (Ad 18)))] : Array Value) = arr18 Ad := rfl
theorem cell18 (Ad : Nat → Addr) (w : World) (t : TypeId) (k : Nat) (hk : k < 18) : (w.alloc (.cells #[.iface 111 (.pointer (some (Ad 1))), .iface 111 (.pointer (some (Ad 2))), .iface 111 (.pointer (some (Ad 3))), .iface 111 (.pointer (some (Ad 4))), .iface 111 (.pointer (some (Ad 5))), .iface 111 (.pointer (some (Ad 6))), .iface 111 (.pointer (some (Ad 7))), .iface 111 (.pointer (some (Ad 8))), .iface 111 (.pointer (some (Ad 9))), .iface 111 (.pointer (some (Ad 10))), .iface 111 (.pointer (some (Ad 11))), .iface 111 (.pointer (some (Ad 12))), .iface 111 (.pointer (some (Ad 13))), .iface 111 (.pointer (some (Ad 14))), .iface 111 (.pointer (some (Ad 15))), .iface 111 (.pointer (some (Ad 16))), .iface 111 (.pointer (some (Ad 17))), .iface 111 (.pointer (some (Ad 18)))] t)).cell? ⟨w.heap.size, k, none⟩ = some (.iface 111 (.pointer (some (Ad (k + 1))))) := by
  rw [lit18, cell_of_row _ _ k (arr18 Ad) t (0, 0) (heap_alloc_new w _)]
  simp [arr18, hk]
end Go.Proofs.YtagjmggiaffihabDoor
