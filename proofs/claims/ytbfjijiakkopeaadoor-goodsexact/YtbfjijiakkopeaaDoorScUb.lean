/- New. -/
import Derived.Test.YtbfjijiakkopeaaDoorScUa
import Derived.BigQuiet
namespace Go.Proofs.YtbfjijiakkopeaaDoor.Sc
open Go.RowKit Go.Shelf
def partV (k : Int) (x : Cmp) (f : Int) : Value := .agg #[.int .i64 k, .int .i64 x.d0, .int .i64 x.d1, .int .i64 x.d2, .int .i64 x.d3, .int .i64 f]
end Go.Proofs.YtbfjijiakkopeaaDoor.Sc
