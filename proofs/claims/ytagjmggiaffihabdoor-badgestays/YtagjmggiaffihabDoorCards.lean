/-
  DERIVED. GIVEN WITH THE SEED: THE CARDS: each row of YtagjmggiaffihabDoorRows.lean that lists a variable, with what it lists TIED to the program's text (the seventh form; the later family's looks); each row that meets fmt, with fmt's text TOLD by the authors' own Lean function (tested against real Go, not proved from fmt's source: count such statements apart). THE CARD IS WHAT COUNTS. Prove the row's statement (the work); the ties are given (YtagjmggiaffihabDoorTie.lean); close each card by the builder's one call (the guide's Derived/Test/ToyasCard.lean, 'card_holds'). Laid BY PROGRAM, IN A SANDBOX (cutbox-door.mjs). By AI agents, Wed Nov 11 2026. No macro, syntax, notation, axiom, sorry.
-/
import Derived.Test.YtagjmggiaffihabDoorRows
import GoSem.ClaimSeven
namespace Go.Proofs.YtagjmggiaffihabDoor
namespace Rows

/-- THE TIED CARD OF 'pasodoblelaw10.BadgeOnce'. -/
def badgeOnceCard : Claim7 := { stood := { row := badgeOnceRow, standIns := [], harness := (true, "24135511351ad0c25e9010c9aa6a2d12b1be0ff86e1368386bec2b8b9553afa4"), looks := true }, kinds := [], alts := [], laidByText := true, laidKinds := [.sentinel, .sentinel, .sentinel, .sentinel, .sentinel], laidTests := true, laidLooks := .later }
def BadgeOnceCardSaid : Prop := Claim7.holds Tryd.pinned (.plain (OpenSpec.ofChange badgeOnceSpec)) badgeOnceCard

/-- THE TIED CARD OF 'pasodoblelaw10.BadgeBack'. -/
def badgeBackCard : Claim7 := { stood := { row := badgeBackRow, standIns := [], harness := (true, "24135511351ad0c25e9010c9aa6a2d12b1be0ff86e1368386bec2b8b9553afa4"), looks := true }, kinds := [], alts := [], laidByText := true, laidKinds := [.sentinel, .sentinel, .sentinel, .sentinel, .sentinel], laidTests := true, laidLooks := .later }
def BadgeBackCardSaid : Prop := Claim7.holds Tryd.pinned (.plain (OpenSpec.ofChange badgeBackSpec)) badgeBackCard

/-- THE TIED CARD OF 'pasodoblelaw10.BadgeStays'. -/
def badgeStaysCard : Claim7 := { stood := { row := badgeStaysRow, standIns := [], harness := (true, "24135511351ad0c25e9010c9aa6a2d12b1be0ff86e1368386bec2b8b9553afa4"), looks := true }, kinds := [], alts := [], laidByText := true, laidKinds := [.sentinel, .sentinel, .sentinel, .sentinel, .sentinel], laidTests := true, laidLooks := .later }
def BadgeStaysCardSaid : Prop := Claim7.holds Tryd.pinned (.plain (OpenSpec.ofChange badgeStaysSpec)) badgeStaysCard

/-- THE SECOND FORM's CARD OF 'pasodoblelaw10.BadgeOnce'. -/
def badgeOnceUptoCard : Claim7 := { stood := { row := badgeOnceUptoRow, standIns := [], harness := (true, "24135511351ad0c25e9010c9aa6a2d12b1be0ff86e1368386bec2b8b9553afa4"), looks := true }, kinds := [], alts := [], laidByText := true, laidKinds := [.sentinel, .sentinel, .sentinel, .sentinel, .sentinel], laidTests := true, laidLooks := .later }
def BadgeOnceUptoCardSaid : Prop := Claim7.holds Tryd.pinned (.plain (OpenSpec.upto badgeOnceSpec)) badgeOnceUptoCard

/-- THE SECOND FORM's CARD OF 'pasodoblelaw10.BadgeBack'. -/
def badgeBackUptoCard : Claim7 := { stood := { row := badgeBackUptoRow, standIns := [], harness := (true, "24135511351ad0c25e9010c9aa6a2d12b1be0ff86e1368386bec2b8b9553afa4"), looks := true }, kinds := [], alts := [], laidByText := true, laidKinds := [.sentinel, .sentinel, .sentinel, .sentinel, .sentinel], laidTests := true, laidLooks := .later }
def BadgeBackUptoCardSaid : Prop := Claim7.holds Tryd.pinned (.plain (OpenSpec.upto badgeBackSpec)) badgeBackUptoCard

/-- THE SECOND FORM's CARD OF 'pasodoblelaw10.BadgeStays'. -/
def badgeStaysUptoCard : Claim7 := { stood := { row := badgeStaysUptoRow, standIns := [], harness := (true, "24135511351ad0c25e9010c9aa6a2d12b1be0ff86e1368386bec2b8b9553afa4"), looks := true }, kinds := [], alts := [], laidByText := true, laidKinds := [.sentinel, .sentinel, .sentinel, .sentinel, .sentinel], laidTests := true, laidLooks := .later }
def BadgeStaysUptoCardSaid : Prop := Claim7.holds Tryd.pinned (.plain (OpenSpec.upto badgeStaysSpec)) badgeStaysUptoCard
end Rows
end Go.Proofs.YtagjmggiaffihabDoor
