/- A part of StoreExact. -/
import Derived.Test.YtnlcbheidiigaaaGreatDoorRsHd
import Derived.Test.YtnlcbheidiigaaaGreatDoorRsGt
namespace Go.Proofs.YtnlcbheidiigaaaGreatDoor
namespace Rs
open Go.RowKit Go.Shelf Go.Maps
section
variable {W1 w w' : World} {sb ub : Nat} {s u : SD} {t : Nat} {gv : Value} {gl : List (Nat × Nat)} {fr : List (Nat × Obj)} {Ad : Nat → Addr}
theorem d_put (h : Ex W1 sb ub s u t gv gl fr w) (i g : Int) (p : Prt) :
  Calls Tryz.prog 26 #[.pointer (some ⟨ub, 0, none⟩), .agg #[.int .i64 i, .int .i64 g], .agg #[.int .i64 p.c, .int .i64 p.v0, .int .i64 p.v1, .int .i64 p.v2, .int .i64 p.v3, .int .i64 p.t]] w fun e w' => e = .returned (.tuple #[(u.put i g p).1.val, .int .i64 (u.put i g p).2.1]) ∧ Ex W1 sb ub s (u.put i g p).2.2 t gv gl fr w' ∧ ((u.put i g p).2.1 ≠ 0 → Below w.heap.size w w') := by
 obtain ⟨c, x, h⟩ := h
 refine (put_any h.d i g p).mono ?_
 rintro e w' ⟨rfl, ⟨x', k1⟩, k2⟩
 exact ⟨rfl, ⟨c, x', h.goD k1⟩, k2⟩
theorem d_set (h : Ex W1 sb ub s u t gv gl fr w) (i g comp cell value frame : Int) :
  Calls Tryz.prog 28 #[.pointer (some ⟨ub, 0, none⟩), .agg #[.int .i64 i, .int .i64 g], .int .i64 comp, .int .i64 cell, .int .i64 value, .int .i64 frame] w fun e w' => e = .returned (.tuple #[(u.setp i g comp cell value frame).1.val, .int .i64 (u.setp i g comp cell value frame).2.1]) ∧ Ex W1 sb ub s (u.setp i g comp cell value frame).2.2 t gv gl fr w' ∧ ((u.setp i g comp cell value frame).2.1 ≠ 0 → Below w.heap.size w w') := by
 obtain ⟨c, x, h⟩ := h
 refine (set_any h.d i g comp cell value frame).mono ?_
 rintro e w' ⟨rfl, ⟨x', k1⟩, k2⟩
 exact ⟨rfl, ⟨c, x', h.goD k1⟩, k2⟩
end
end Rs
end Go.Proofs.YtnlcbheidiigaaaGreatDoor
