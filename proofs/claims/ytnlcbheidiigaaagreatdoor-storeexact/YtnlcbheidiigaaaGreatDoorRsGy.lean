/- A part of StoreExact. -/
import Derived.Test.YtnlcbheidiigaaaGreatDoorRsGm
namespace Go.Proofs.YtnlcbheidiigaaaGreatDoor
namespace Rs
open Go.RowKit
open YtnlcbheidiigaaaGreatDoor.So (setQ)
def SD.setp (s : SD) (i g comp cell value frame : Int) : Prt × Int × SD :=
 if (s.get i g comp).2 = 0 then (if cell < 0 ∨ ((s.ws[comp.toNat]?.getD 0 : Nat) : Int) ≤ cell then (Prt.zero, 1, s) else s.put i g (setQ (s.get i g comp).1 cell.toNat value frame)) else ((s.get i g comp).1, (s.get i g comp).2, s)
end Rs
end Go.Proofs.YtnlcbheidiigaaaGreatDoor
