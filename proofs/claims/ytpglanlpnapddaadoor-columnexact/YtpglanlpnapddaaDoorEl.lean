/- ColumnExact. -/
import Derived.Test.YtpglanlpnapddaaDoorEk
namespace Go.Proofs.YtpglanlpnapddaaDoor
open Go.RowKit Go.Shelf Go.Maps
theorem exact_law (w : World) (Ad : Nat → Addr) (hE : Env w Ad) (c wd : Int) (v : Value) (cl : List ActI) (hA : ActRow w v cl) :
    Calls Tryd.prog 3 #[.int .i64 c, .int .i64 wd, v] w fun e w' => e = .returned (.bool true) ∧ Below w.heap.size w w' := by
  by_cases h : c < 0 ∨ 15 < c ∨ wd < 1 ∨ 4 < wd
  · exact exact_out w Ad hE c wd v h
  · obtain ⟨n, rfl⟩ : ∃ n : Nat, wd = (n : Int) := Int.eq_ofNat_of_zero_le (by omega)
    exact exact_in w Ad hE c n (by omega) (by omega) (by omega) (by omega) v cl hA
end Go.Proofs.YtpglanlpnapddaaDoor
