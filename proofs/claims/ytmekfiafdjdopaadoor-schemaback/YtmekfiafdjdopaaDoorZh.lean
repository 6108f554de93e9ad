/- SchemaBack at every set. -/
import Derived.Test.YtmekfiafdjdopaaDoorZe
import Derived.Test.YtmekfiafdjdopaaDoorXc
namespace Go.Proofs.YtmekfiafdjdopaaDoor
open Go.RowKit Go.Shelf
theorem back_int (Ad : Nat → Addr) (w : World) (a : Int) (ha : (Lit.int .u32 a).wf = true) (v : Value) (ns : List Int) (hE : Env w Ad) (hv : IntRow w v ns) :
    Calls Tryd.prog 5 #[.int .u32 a, v] w fun e w' => e = .returned (.bool true) ∧ Below w.heap.size w w' := by
  obtain ⟨m, rfl, hm⟩ := u32_nat a ha
  exact back_law Ad w m hm v ns hE hv
end Go.Proofs.YtmekfiafdjdopaaDoor
