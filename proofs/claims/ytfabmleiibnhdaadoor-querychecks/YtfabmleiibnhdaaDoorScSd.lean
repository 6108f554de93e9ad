/- For Check: an error at its way; what is wrong with a component. -/
import Derived.Test.YtfabmleiibnhdaaDoorScSc
import Derived.Test.YtfabmleiibnhdaaDoorShelf
import Derived.Lib.ItoaNum
namespace Go.Proofs.YtfabmleiibnhdaaDoor.Sc
open Go.RowKit Go.Shelf
/-- A number's digits. -/
def dig (i : Nat) : ByteArray := ⟨(Lib.decDigits i).toArray⟩
theorem sent_chn (Ad : Nat → Addr) (n₀ k : Nat) (W : World) (hk : 1 ≤ k ∧ k ≤ 18) : Chn Ad n₀ W 0 (.iface 121 (.pointer (some (Ad k)))) ([], k) := ⟨rfl, hk.1, hk.2, Nat.le_refl _⟩
/-- A component. -/
structure Cmp where
  s : ByteArray
  wd : Int
  rb : Bool
  d0 : Int
  d1 : Int
  d2 : Int
  d3 : Int
def Cmp.val (c : Cmp) : Value := .agg #[.string c.s, .int .i64 c.wd, .bool c.rb, .int .i64 c.d0, .int .i64 c.d1, .int .i64 c.d2, .int .i64 c.d3]
def wOk (c : Cmp) : Bool := decide (1 ≤ c.wd) && decide (c.wd ≤ 4)
theorem wOk_no (c : Cmp) (h : ¬ (1 ≤ c.wd ∧ c.wd ≤ 4)) : wOk c = false := by
  unfold wOk
  by_cases h1 : 1 ≤ c.wd
  · have h2 : ¬ c.wd ≤ 4 := fun h2 => h ⟨h1, h2⟩
    simp [h2]
  · simp [h1]
theorem wOk_yes (c : Cmp) (h : 1 ≤ c.wd ∧ c.wd ≤ 4) : wOk c = true := by
  unfold wOk
  simp [h.1, h.2]
def wErr (c : Cmp) : List Nat := if wOk c then [] else [1]
/-- Numbers in memory. -/
def IntRow (W : World) (v : Value) (ds : List Int) : Prop := ∃ a c, v = .slice a ds.length c ∧ (ds = [] ∨ ∃ b o, a = some ⟨b, o, none⟩ ∧ ∀ (j : Nat) x, ds[j]? = some x → W.cell? ⟨b, o + j, none⟩ = some (.int .i64 x))
def nzB (n : Int) : Bool := n != 0
/-- Whether a default is nothing behind its width. -/
def behind (c : Cmp) : List Int := [c.d0, c.d1, c.d2, c.d3].drop c.wd.toNat
def dErr (c : Cmp) : List Nat := if wOk c && (behind c).any nzB then [1] else []
end Go.Proofs.YtfabmleiibnhdaaDoor.Sc
