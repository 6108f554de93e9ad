/- A part against itself. -/
import Derived.Test.YtmekfiafdjdopaaDoorUc
import Derived.Laws.StructEq
namespace Go.Proofs.YtmekfiafdjdopaaDoor
open Go.RowKit Go.Shelf
theorem eqA (n : Nat) (h : ∀ (x : Int) (w : World), (Op.equalIn n 3 (.int .i64 x) (.int .i64 x)).run Tryd.prog w = .ok true w) (w : World) (a b c e : Int) : (Op.equalIn (n + 1) 40 (.agg #[.int .i64 a, .int .i64 b, .int .i64 c, .int .i64 e]) (.agg #[.int .i64 a, .int .i64 b, .int .i64 c, .int .i64 e])).run Tryd.prog w = .ok true w := by
  have u40 := Tryd.underlying40
  have u3 := Tryd.underlying3
  have a3 := Tryd.isAgg3
  have z3 := Tryd.sizeOf3
  simp only [Op.equalIn, Sem.run_bind, run_underlying u40, Result.andThen_ok, z3]
  simp [Std.Legacy.Range.forIn_eq_forIn_range', Std.Legacy.Range.size, List.range', part, a3, z3, h, go_sem]
theorem eqI (d : Nat) (x : Int) (w : World) : (Op.equalIn (d + 1) 3 (.int .i64 x) (.int .i64 x)).run Tryd.prog w = .ok true w := by
  rw [run_equalIn_int w d 3 .i64 .i64 x x Tryd.underlying3]
  simp
theorem neqP (x a b c e t : Int) (w : World) : (binOp .neq 42 (.agg #[.int .i64 x, .int .i64 a, .int .i64 b, .int .i64 c, .int .i64 e, .int .i64 t]) (.agg #[.int .i64 x, .int .i64 a, .int .i64 b, .int .i64 c, .int .i64 e, .int .i64 t])).run Tryd.prog w = .ok (.bool false) w := by
  have hS : Tryd.prog.underlying 42 = some (.struct (Tryd.prog.fieldsOf 42)) := by kernel_rfl
  have hp : Tryd.prog.stoodInHeld 42 = false := by kernel_rfl
  have h := run_equalIn_agg (P := Tryd.prog) w 9999 42 #[.int .i64 x, .int .i64 a, .int .i64 b, .int .i64 c, .int .i64 e, .int .i64 t] #[.int .i64 x, .int .i64 a, .int .i64 b, .int .i64 c, .int .i64 e, .int .i64 t] hS hp
  have u3 := Tryd.underlying3
  have a3 := Tryd.isAgg3
  have z3 := Tryd.sizeOf3
  have u40 := Tryd.underlying40
  have a40 := Tryd.isAgg40
  have z40 := Tryd.sizeOf40
  have hA : ∀ w, (Op.equalIn 9999 40 (.agg #[.int .i64 a, .int .i64 b, .int .i64 c, .int .i64 e]) (.agg #[.int .i64 a, .int .i64 b, .int .i64 c, .int .i64 e])).run Tryd.prog w = .ok true w := fun w => eqA 9998 (eqI 9997) w a b c e
  simp only [Program.fieldsOf, Tryd.underlying42] at h
  rw [run_neq_struct, show (10000 : Nat) = 9999 + 1 from rfl, h]
  clear h hS hp
  go_simp
end Go.Proofs.YtmekfiafdjdopaaDoor
