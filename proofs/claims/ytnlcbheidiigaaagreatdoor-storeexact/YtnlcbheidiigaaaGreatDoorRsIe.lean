/- A part of StoreExact. -/
import Derived.Test.YtnlcbheidiigaaaGreatDoorRsIa
namespace Go.Proofs.YtnlcbheidiigaaaGreatDoor
namespace Rs
open Go.RowKit Go.Shelf Go.Maps
def WX (w2 : World) (sb ub : Nat) (ca : Option Addr) (cc : Nat) (xs : List AX) (a : Act) (w : World) : Prop := ∃ k, WI w2 sb ub ca cc xs k a w
set_option maxHeartbeats 6400000 in
set_option maxRecDepth 1000000 in
theorem exit_1 (w2 : World) (sb ub : Nat) (ca : Option Addr) (cc : Nat) (xs : List AX) (u : Nat → Value) (q : Nat) (ga : Option Addr) (gc : Nat) (gl : List (Nat × Nat)) (s : SD) (wr : World) {gh : Nat} (hR : Rd w2 sb ub gh q ga gc gl s wr) (h1 : ¬ q < xs.length) (K0 : Act → World → Prop) (Q : Exit → Act → World → Prop) (hX : ∀ a' w', WX w2 sb ub ca cc xs a' w' → Q (.exit 0) a' w') : Code.wp Tryz.prog body1 (Exit.then K0 Q) (F3 ca cc xs sb ub ga gc gl q u) wr := by
 unfold F3
 conv => arg 2; whnf
 have h1i : ¬ ((q : Int) < (xs.length : Int)) := by omega
 have HX := hid hX
 have HR := hid hR
 clear hX hR
 go_wp2_with fail
 exact HX.out _ _ ⟨_, WI.mk (q := q) rfl HR.out⟩
set_option maxHeartbeats 6400000 in
set_option maxRecDepth 1000000 in
theorem exit_2 (w2 : World) (sb ub : Nat) (ca : Option Addr) (cc : Nat) (xs : List AX) (u : Nat → Value) (q : Nat) (ga : Option Addr) (gc : Nat) (gl : List (Nat × Nat)) (s : SD) (wr : World) {gh : Nat} (hR : Rd w2 sb ub gh q ga gc gl s wr) (h1 : q < xs.length) (h2 : ¬ q < 150) (K0 : Act → World → Prop) (Q : Exit → Act → World → Prop) (hX : ∀ a' w', WX w2 sb ub ca cc xs a' w' → Q (.exit 0) a' w') : Code.wp Tryz.prog body1 (Exit.then K0 Q) (F3 ca cc xs sb ub ga gc gl q u) wr := by
 unfold F3
 conv => arg 2; whnf
 have h1i : (q : Int) < (xs.length : Int) := by omega
 have h2i : ¬ ((q : Int) < 150) := by omega
 have HX := hid hX
 have HR := hid hR
 clear hX hR
 go_wp2_with fail
 exact HX.out _ _ ⟨_, WI.mk (q := q) rfl HR.out⟩
end Rs
end Go.Proofs.YtnlcbheidiigaaaGreatDoor
