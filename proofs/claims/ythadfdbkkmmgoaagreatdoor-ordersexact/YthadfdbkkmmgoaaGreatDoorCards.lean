/-
  DERIVED. GIVEN WITH THE SEED: THE CARDS: each row of YthadfdbkkmmgoaaGreatDoorRows.lean that lists a variable, with what it lists TIED to the program's text (the seventh form; the later family's looks); each row that meets fmt, with fmt's text TOLD by the authors' own Lean function (tested against real Go, not proved from fmt's source: count such statements apart). THE CARD IS WHAT COUNTS. Prove the row's statement (the work); the ties are given (YthadfdbkkmmgoaaGreatDoorTie.lean); close each card by the builder's one call (the guide's Derived/Test/ToyasCard.lean, 'card_holds'). Laid BY PROGRAM, IN A SANDBOX (cutbox-door.mjs). By AI agents, Wed Nov 11 2026. No macro, syntax, notation, axiom, sorry.
-/
import Derived.Test.YthadfdbkkmmgoaaGreatDoorRows
import GoSem.ClaimSeven
namespace Go.Proofs.YthadfdbkkmmgoaaGreatDoor
namespace Rows

/-- THE TIED CARD OF 'pasodoblelaw15.OrdersExact'. -/
def ordersExactCard : Claim7 := { stood := { row := ordersExactRow, standIns := [], harness := (true, "89b2282f0e3afc502a97b8b997dcc1eb397aedf937b58c7b3fbd22e8fc2df538"), looks := true }, kinds := [], alts := [], laidByText := true, laidKinds := [.data, .data, .data, .sentinel, .sentinel, .sentinel, .sentinel, .sentinel, .sentinel, .sentinel, .sentinel, .sentinel, .sentinel, .sentinel, .sentinel, .sentinel, .sentinel, .sentinel, .sentinel, .sentinel, .sentinel], laidTests := true, laidLooks := .later }
def OrdersExactCardSaid : Prop := Claim7.holds Tryz.pinned (.plain (OpenSpec.ofChange ordersExactSpec)) ordersExactCard

/-- THE TIED CARD OF 'pasodoblelaw15.OrdersFew'. -/
def ordersFewCard : Claim7 := { stood := { row := ordersFewRow, standIns := [], harness := (true, "89b2282f0e3afc502a97b8b997dcc1eb397aedf937b58c7b3fbd22e8fc2df538"), looks := true }, kinds := [], alts := [], laidByText := true, laidKinds := [.data, .data, .data, .sentinel, .sentinel, .sentinel, .sentinel, .sentinel, .sentinel, .sentinel, .sentinel, .sentinel], laidTests := true, laidLooks := .later }
def OrdersFewCardSaid : Prop := Claim7.holds Tryz.pinned (.plain (OpenSpec.ofChange ordersFewSpec)) ordersFewCard

/-- THE TIED CARD OF 'pasodoblelaw15.OrdersTurns'. -/
def ordersTurnsCard : Claim7 := { stood := { row := ordersTurnsRow, standIns := [], harness := (true, "89b2282f0e3afc502a97b8b997dcc1eb397aedf937b58c7b3fbd22e8fc2df538"), looks := true }, kinds := [], alts := [], laidByText := true, laidKinds := [.data, .data, .data, .sentinel, .sentinel, .sentinel, .sentinel, .sentinel, .sentinel, .sentinel, .sentinel, .sentinel], laidTests := true, laidLooks := .later }
def OrdersTurnsCardSaid : Prop := Claim7.holds Tryz.pinned (.plain (OpenSpec.ofChange ordersTurnsSpec)) ordersTurnsCard

/-- THE TIED CARD OF 'pasodoblelaw15.OrdersWait'. -/
def ordersWaitCard : Claim7 := { stood := { row := ordersWaitRow, standIns := [], harness := (true, "89b2282f0e3afc502a97b8b997dcc1eb397aedf937b58c7b3fbd22e8fc2df538"), looks := true }, kinds := [], alts := [], laidByText := true, laidKinds := [.data, .data, .data, .sentinel, .sentinel, .sentinel, .sentinel, .sentinel, .sentinel, .sentinel, .sentinel, .sentinel], laidTests := true, laidLooks := .later }
def OrdersWaitCardSaid : Prop := Claim7.holds Tryz.pinned (.plain (OpenSpec.ofChange ordersWaitSpec)) ordersWaitCard

/-- THE SECOND FORM's CARD OF 'pasodoblelaw15.OrdersExact'. -/
def ordersExactUptoCard : Claim7 := { stood := { row := ordersExactUptoRow, standIns := [], harness := (true, "89b2282f0e3afc502a97b8b997dcc1eb397aedf937b58c7b3fbd22e8fc2df538"), looks := true }, kinds := [], alts := [], laidByText := true, laidKinds := [.data, .data, .data, .sentinel, .sentinel, .sentinel, .sentinel, .sentinel, .sentinel, .sentinel, .sentinel, .sentinel, .sentinel, .sentinel, .sentinel, .sentinel, .sentinel, .sentinel, .sentinel, .sentinel, .sentinel], laidTests := true, laidLooks := .later }
def OrdersExactUptoCardSaid : Prop := Claim7.holds Tryz.pinned (.plain (OpenSpec.upto ordersExactSpec)) ordersExactUptoCard

/-- THE SECOND FORM's CARD OF 'pasodoblelaw15.OrdersFew'. -/
def ordersFewUptoCard : Claim7 := { stood := { row := ordersFewUptoRow, standIns := [], harness := (true, "89b2282f0e3afc502a97b8b997dcc1eb397aedf937b58c7b3fbd22e8fc2df538"), looks := true }, kinds := [], alts := [], laidByText := true, laidKinds := [.data, .data, .data, .sentinel, .sentinel, .sentinel, .sentinel, .sentinel, .sentinel, .sentinel, .sentinel, .sentinel], laidTests := true, laidLooks := .later }
def OrdersFewUptoCardSaid : Prop := Claim7.holds Tryz.pinned (.plain (OpenSpec.upto ordersFewSpec)) ordersFewUptoCard

/-- THE SECOND FORM's CARD OF 'pasodoblelaw15.OrdersTurns'. -/
def ordersTurnsUptoCard : Claim7 := { stood := { row := ordersTurnsUptoRow, standIns := [], harness := (true, "89b2282f0e3afc502a97b8b997dcc1eb397aedf937b58c7b3fbd22e8fc2df538"), looks := true }, kinds := [], alts := [], laidByText := true, laidKinds := [.data, .data, .data, .sentinel, .sentinel, .sentinel, .sentinel, .sentinel, .sentinel, .sentinel, .sentinel, .sentinel], laidTests := true, laidLooks := .later }
def OrdersTurnsUptoCardSaid : Prop := Claim7.holds Tryz.pinned (.plain (OpenSpec.upto ordersTurnsSpec)) ordersTurnsUptoCard

/-- THE SECOND FORM's CARD OF 'pasodoblelaw15.OrdersWait'. -/
def ordersWaitUptoCard : Claim7 := { stood := { row := ordersWaitUptoRow, standIns := [], harness := (true, "89b2282f0e3afc502a97b8b997dcc1eb397aedf937b58c7b3fbd22e8fc2df538"), looks := true }, kinds := [], alts := [], laidByText := true, laidKinds := [.data, .data, .data, .sentinel, .sentinel, .sentinel, .sentinel, .sentinel, .sentinel, .sentinel, .sentinel, .sentinel], laidTests := true, laidLooks := .later }
def OrdersWaitUptoCardSaid : Prop := Claim7.holds Tryz.pinned (.plain (OpenSpec.upto ordersWaitSpec)) ordersWaitUptoCard
end Rows
end Go.Proofs.YthadfdbkkmmgoaaGreatDoor
