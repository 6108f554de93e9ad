/- Set and Put, of a column by its blocks. -/
import Derived.Test.YtpglanlpnapddaaDoorCp
import Derived.Test.YtpglanlpnapddaaDoorCk
namespace Go.Proofs.YtpglanlpnapddaaDoor
open Go.RowKit Go.Shelf Go.Maps
section
variable {B : Nat} {W : World} {rb : Nat} {s : CS} {S : Nat → Prop}
theorem col_set (h : Col B W rb s S) (n : Nat) (p : Pt) (hp : s.rows[n]? = some p) (j : Nat) (hj : j < s.w) (value frame : Int) (hfr : I64 frame) :
    Calls Tryd.prog 13 #[.pointer (some ⟨rb, 0, none⟩), .int .i64 (n : Int), .int .i64 (j : Int), .int .i64 value, .int .i64 frame] W fun e W' => e = .returned (.tuple #[p.val s.comp, .nilIface]) ∧ Col B W' rb (s.turned n (p.put j value frame)) S ∧ St S W W' := by
  obtain ⟨mb, sv, h1, h2⟩ := h
  refine (set_ok h1 n p hp j hj value frame hfr).mono ?_
  rintro e w ⟨rfl, sv', h3, h4, h5⟩
  refine ⟨rfl, ⟨mb, sv', h3, fun k => ?_⟩, ⟨h5.os, h5.tape, h5.output, h5.size, fun k hk hn => h5.block k hk fun q => hn ((h2 k).2 q)⟩⟩
  rw [h2 k]
  unfold Ft
  rw [h4]
theorem col_setnone (Ad : Nat → Addr) (h : Col B W rb s S) (hE : Env3 W Ad) (i cell value frame : Int) (hi : I64 i) (hr : rowAt s.rows i = none) :
    Calls Tryd.prog 13 #[.pointer (some ⟨rb, 0, none⟩), .int .i64 i, .int .i64 cell, .int .i64 value, .int .i64 frame] W fun e W' => ∃ t q, e = .returned (.tuple #[.agg #[.int .i64 0, .int .i64 0, .int .i64 0, .int .i64 0, .int .i64 0, .int .i64 0], .iface t q]) ∧ Err Ad W' (.iface t q) 7 2 ∧ Below W.heap.size W W' := by
  obtain ⟨mb, sv, h1, h2⟩ := h
  exact set_none Ad h1 hE i cell value frame hi hr
theorem col_setcell (Ad : Nat → Addr) (h : Col B W rb s S) (hE : Env3 W Ad) (n : Nat) (p : Pt) (hp : s.rows[n]? = some p) (cell value frame : Int) (hc : cell < 0 ∨ (s.w : Int) ≤ cell) :
    Calls Tryd.prog 13 #[.pointer (some ⟨rb, 0, none⟩), .int .i64 (n : Int), .int .i64 cell, .int .i64 value, .int .i64 frame] W fun e W' => ∃ t q, e = .returned (.tuple #[.agg #[.int .i64 0, .int .i64 0, .int .i64 0, .int .i64 0, .int .i64 0, .int .i64 0], .iface t q]) ∧ Err Ad W' (.iface t q) 1 2 ∧ Below W.heap.size W W' := by
  obtain ⟨mb, sv, h1, h2⟩ := h
  exact set_cell Ad h1 hE n p hp cell value frame hc
theorem col_put (h : Col B W rb s S) (n : Nat) (p : Pt) (hp : s.rows[n]? = some p) (q : Pt) (hf : q.fitB s.w = true) (ht : I64 q.t) :
    Calls Tryd.prog 15 #[.pointer (some ⟨rb, 0, none⟩), .int .i64 (n : Int), q.val s.comp] W fun e W' => e = .returned (.tuple #[p.val s.comp, .nilIface]) ∧ Col B W' rb (s.turned n q) S ∧ St S W W' := by
  obtain ⟨mb, sv, h1, h2⟩ := h
  refine (put_ok h1 n p hp q hf ht).mono ?_
  rintro e w ⟨rfl, sv', h3, h4, h5⟩
  refine ⟨rfl, ⟨mb, sv', h3, fun k => ?_⟩, ⟨h5.os, h5.tape, h5.output, h5.size, fun k hk hn => h5.block k hk fun q => hn ((h2 k).2 q)⟩⟩
  rw [h2 k]
  unfold Ft
  rw [h4]
theorem col_putnone (Ad : Nat → Addr) (h : Col B W rb s S) (hE : Env3 W Ad) (i cm : Int) (p : Pt) (hi : I64 i) (hr : rowAt s.rows i = none) :
    Calls Tryd.prog 15 #[.pointer (some ⟨rb, 0, none⟩), .int .i64 i, p.val cm] W fun e W' => ∃ t q, e = .returned (.tuple #[.agg #[.int .i64 0, .int .i64 0, .int .i64 0, .int .i64 0, .int .i64 0, .int .i64 0], .iface t q]) ∧ Err Ad W' (.iface t q) 7 2 ∧ Below W.heap.size W W' := by
  obtain ⟨mb, sv, h1, h2⟩ := h
  exact put_none Ad h1 hE i cm p hi hr
theorem col_putbad (Ad : Nat → Addr) (h : Col B W rb s S) (hE : Env3 W Ad) (n : Nat) (p : Pt) (hp : s.rows[n]? = some p) (cm : Int) (q : Pt) (hc : cm ≠ s.comp ∨ q.fitB s.w = false) :
    Calls Tryd.prog 15 #[.pointer (some ⟨rb, 0, none⟩), .int .i64 (n : Int), q.val cm] W fun e W' => ∃ t u, e = .returned (.tuple #[.agg #[.int .i64 0, .int .i64 0, .int .i64 0, .int .i64 0, .int .i64 0, .int .i64 0], .iface t u]) ∧ Err Ad W' (.iface t u) 1 2 ∧ Below W.heap.size W W' := by
  obtain ⟨mb, sv, h1, h2⟩ := h
  exact put_bad Ad h1 hE n p hp cm q hc
end
end Go.Proofs.YtpglanlpnapddaaDoor
