/- Eight of the sentinels. -/
import Derived.Test.YtkhhiddemihnbaaDoorKm
namespace Go.Proofs.YtkhhiddemihnbaaDoor
open Go.RowKit Go.Shelf
def eight : List Nat := [1, 4, 12, 13, 14]
/-- Eight sentinels lie where the program's text lays them. -/
structure Env8 (w : World) (Ad : Nat → Addr) : Prop where
  cell : ∀ k, k ∈ eight → k ≤ 18 → w.cell? ⟨gv k, 0, none⟩ = some (.iface 163 (.pointer (some (Ad k))))
  sen : ∀ k, k ∈ eight → k ≤ 18 → SenK w (Ad k)
  inj : ∀ i j, i ∈ eight → j ∈ eight → Ad i = Ad j → i = j
theorem eight_le : ∀ k ∈ eight, 1 ≤ k ∧ k ≤ 18 := by decide
theorem Env8.later {w w' : World} {Ad : Nat → Addr} (h : Env8 w Ad) (hb : Below w.heap.size w w') : Env8 w' Ad :=
  ⟨fun k h1 h2 => (hb.cell (p := ⟨gv k, 0, none⟩) (World.block_lt_of_cell? w _ (h.cell k h1 h2))).trans (h.cell k h1 h2), fun k h1 h2 => (h.sen k h1 h2).below hb (h.sen k h1 h2).lt, h.inj⟩
theorem Env8.same {w : World} {Ad : Nat → Addr} (h : Env8 w Ad) {p k : Nat} (hp : p ∈ eight) (hk : k ∈ eight) : decide (Ad p = Ad k) = decide (p = k) := by
  by_cases e : p = k
  · subst e; simp
  · have : Ad p ≠ Ad k := fun h' => e (h.inj p k hp hk h')
    simp [e, this]
theorem Env.eight {w : World} {Ad : Nat → Addr} (h : Env w Ad) : Env8 w Ad :=
  ⟨fun k h1 h2 => h.cell k (eight_le k h1).1 h2, fun k h1 h2 => h.sen k (eight_le k h1).1 h2, fun i j h1 h2 => h.inj i j (eight_le i h1).1 (eight_le i h1).2 (eight_le j h2).1 (eight_le j h2).2⟩
end Go.Proofs.YtkhhiddemihnbaaDoor
