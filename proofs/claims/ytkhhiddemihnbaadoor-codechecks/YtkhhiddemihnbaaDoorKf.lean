/- Contracts of blame: Of. -/
import Derived.Test.YtkhhiddemihnbaaDoorKe
namespace Go.Proofs.YtkhhiddemihnbaaDoor
open Go.RowKit Go.Shelf
/-- The variable of a number. -/
def gv (k : Nat) : Nat := if k = 1 then 4 else if k = 2 then 6 else if k = 3 then 7 else if k = 4 then 2 else if k = 5 then 8 else if k = 6 then 9 else if k = 7 then 10 else if k = 8 then 11 else if k = 9 then 12 else if k = 10 then 13 else if k = 11 then 14 else if k = 12 then 0 else if k = 13 then 5 else if k = 14 then 3 else if k = 15 then 15 else if k = 16 then 16 else if k = 17 then 17 else if k = 18 then 18 else k - 1
/-- The eighteen sentinels. -/
structure Env (w : World) (Ad : Nat → Addr) : Prop where
  cell : ∀ k, 1 ≤ k → k ≤ 18 → w.cell? ⟨gv k, 0, none⟩ = some (.iface 163 (.pointer (some (Ad k))))
  sen : ∀ k, 1 ≤ k → k ≤ 18 → SenK w (Ad k)
  inj : ∀ i j, 1 ≤ i → i ≤ 18 → 1 ≤ j → j ≤ 18 → Ad i = Ad j → i = j
theorem Env.below {w w' : World} {Ad : Nat → Addr} {B : Nat} (h : Env w Ad) (hb : Below B w w') (hB : w.heap.size ≤ B) : Env w' Ad :=
  ⟨fun k h1 h2 => (hb.cell (p := ⟨gv k, 0, none⟩) (Nat.lt_of_lt_of_le (World.block_lt_of_cell? w _ (h.cell k h1 h2)) hB)).trans (h.cell k h1 h2), fun k h1 h2 => (h.sen k h1 h2).below hb (Nat.lt_of_lt_of_le (h.sen k h1 h2).lt hB), h.inj⟩
theorem Env.later {w w' : World} {Ad : Nat → Addr} (h : Env w Ad) (hb : Below w.heap.size w w') : Env w' Ad := h.below hb (Nat.le_refl _)
def arr18 (Ad : Nat → Addr) : Array Value := ((List.range 18).map fun i => Value.iface 163 (.pointer (some (Ad (i + 1))))).toArray
theorem lit18 (Ad : Nat → Addr) : (#[.iface 163 (.pointer (some (Ad 1))), .iface 163 (.pointer (some (Ad 2))), .iface 163 (.pointer (some (Ad 3))), .iface 163 (.pointer (some (Ad 4))), .iface 163 (.pointer (some (Ad 5))), .iface 163 (.pointer (some (Ad 6))), .iface 163 (.pointer (some (Ad 7))), .iface 163 (.pointer (some (Ad 8))), .iface 163 (.pointer (some (Ad 9))), .iface 163 (.pointer (some (Ad 10))), .iface 163 (.pointer (some (Ad 11))), .iface 163 (.pointer (some (Ad 12))), .iface 163 (.pointer (some (Ad 13))), .iface 163 (.pointer (some (Ad 14))), .iface 163 (.pointer (some (Ad 15))), .iface 163 (.pointer (some (Ad 16))), .iface 163 (.pointer (some (Ad 17))), .iface 163 (.pointer (some (Ad 18)))] : Array Value) = arr18 Ad := rfl
theorem cell18 (Ad : Nat → Addr) (w : World) (t : TypeId) (k : Nat) (hk : k < 18) : (w.alloc (.cells #[.iface 163 (.pointer (some (Ad 1))), .iface 163 (.pointer (some (Ad 2))), .iface 163 (.pointer (some (Ad 3))), .iface 163 (.pointer (some (Ad 4))), .iface 163 (.pointer (some (Ad 5))), .iface 163 (.pointer (some (Ad 6))), .iface 163 (.pointer (some (Ad 7))), .iface 163 (.pointer (some (Ad 8))), .iface 163 (.pointer (some (Ad 9))), .iface 163 (.pointer (some (Ad 10))), .iface 163 (.pointer (some (Ad 11))), .iface 163 (.pointer (some (Ad 12))), .iface 163 (.pointer (some (Ad 13))), .iface 163 (.pointer (some (Ad 14))), .iface 163 (.pointer (some (Ad 15))), .iface 163 (.pointer (some (Ad 16))), .iface 163 (.pointer (some (Ad 17))), .iface 163 (.pointer (some (Ad 18)))] t)).cell? ⟨w.heap.size, k, none⟩ = some (.iface 163 (.pointer (some (Ad (k + 1))))) := by
  rw [lit18, cell_of_row _ _ k (arr18 Ad) t (0, 0) (heap_alloc_new w _)]
  simp [arr18, hk]
set_option maxHeartbeats 1600000 in
set_option maxRecDepth 100000 in
theorem of_some (w : World) (Ad : Nat → Addr) (h : Env w Ad) (k : Nat) (hk : k < 18) :
    Calls Tryd.prog 65 #[.int .i64 ((k : Int) + 1)] w fun e w' => e = .returned (.iface 163 (.pointer (some (Ad (k + 1))))) ∧ Below w.heap.size w w' := by
  have c1 : w.cell? ⟨4, 0, none⟩ = some (.iface 163 (.pointer (some (Ad 1)))) := h.cell 1 (by decide) (by decide)
  have c2 : w.cell? ⟨6, 0, none⟩ = some (.iface 163 (.pointer (some (Ad 2)))) := h.cell 2 (by decide) (by decide)
  have c3 : w.cell? ⟨7, 0, none⟩ = some (.iface 163 (.pointer (some (Ad 3)))) := h.cell 3 (by decide) (by decide)
  have c4 : w.cell? ⟨2, 0, none⟩ = some (.iface 163 (.pointer (some (Ad 4)))) := h.cell 4 (by decide) (by decide)
  have c5 : w.cell? ⟨8, 0, none⟩ = some (.iface 163 (.pointer (some (Ad 5)))) := h.cell 5 (by decide) (by decide)
  have c6 : w.cell? ⟨9, 0, none⟩ = some (.iface 163 (.pointer (some (Ad 6)))) := h.cell 6 (by decide) (by decide)
  have c7 : w.cell? ⟨10, 0, none⟩ = some (.iface 163 (.pointer (some (Ad 7)))) := h.cell 7 (by decide) (by decide)
  have c8 : w.cell? ⟨11, 0, none⟩ = some (.iface 163 (.pointer (some (Ad 8)))) := h.cell 8 (by decide) (by decide)
  have c9 : w.cell? ⟨12, 0, none⟩ = some (.iface 163 (.pointer (some (Ad 9)))) := h.cell 9 (by decide) (by decide)
  have c10 : w.cell? ⟨13, 0, none⟩ = some (.iface 163 (.pointer (some (Ad 10)))) := h.cell 10 (by decide) (by decide)
  have c11 : w.cell? ⟨14, 0, none⟩ = some (.iface 163 (.pointer (some (Ad 11)))) := h.cell 11 (by decide) (by decide)
  have c12 : w.cell? ⟨0, 0, none⟩ = some (.iface 163 (.pointer (some (Ad 12)))) := h.cell 12 (by decide) (by decide)
  have c13 : w.cell? ⟨5, 0, none⟩ = some (.iface 163 (.pointer (some (Ad 13)))) := h.cell 13 (by decide) (by decide)
  have c14 : w.cell? ⟨3, 0, none⟩ = some (.iface 163 (.pointer (some (Ad 14)))) := h.cell 14 (by decide) (by decide)
  have c15 : w.cell? ⟨15, 0, none⟩ = some (.iface 163 (.pointer (some (Ad 15)))) := h.cell 15 (by decide) (by decide)
  have c16 : w.cell? ⟨16, 0, none⟩ = some (.iface 163 (.pointer (some (Ad 16)))) := h.cell 16 (by decide) (by decide)
  have c17 : w.cell? ⟨17, 0, none⟩ = some (.iface 163 (.pointer (some (Ad 17)))) := h.cell 17 (by decide) (by decide)
  have c18 : w.cell? ⟨18, 0, none⟩ = some (.iface 163 (.pointer (some (Ad 18)))) := h.cell 18 (by decide) (by decide)
  have hki : (k : Int) < 18 := by omega
  have hc := cell18 Ad w 150 k hk
  clear h hk
  go_enter Tryd.func65, Tryd.ntmps65
  go_wp2
  go_ret
  exact ⟨rfl, (Below.refl _ _).alloc (Nat.le_refl _) _⟩
end Go.Proofs.YtkhhiddemihnbaaDoor
