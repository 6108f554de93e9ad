/-
  DERIVED. GIVEN WITH THE SEED: THE CARDS: each row of YtoafpfheopgdkaaGreatDoorRows.lean that lists a variable, with what it lists TIED to the program's text (the seventh form; the later family's looks); each row that meets fmt, with fmt's text TOLD by the authors' own Lean function (tested against real Go, not proved from fmt's source: count such statements apart). THE CARD IS WHAT COUNTS. Prove the row's statement (the work); the ties are given (YtoafpfheopgdkaaGreatDoorTie.lean); close each card by the builder's one call (the guide's Derived/Test/ToyasCard.lean, 'card_holds'). Laid BY PROGRAM, IN A SANDBOX (cutbox-door.mjs). By AI agents, Wed Nov 11 2026. No macro, syntax, notation, axiom, sorry.
-/
import Derived.Test.YtoafpfheopgdkaaGreatDoorRows
import GoSem.ClaimSeven
namespace Go.Proofs.YtoafpfheopgdkaaGreatDoor
namespace Rows

/-- THE TIED CARD OF 'pasodoblelaw11.QueryRuns'. -/
def queryRunsCard : Claim7 := { stood := { row := queryRunsRow, standIns := [], harness := (true, "28ee6c2fcb3c7dfed19b2f1be3bb984c3135e420e3989e42a57fff24850bd83c"), looks := true }, kinds := [], alts := [], laidByText := true, laidKinds := [.data, .data, .data, .sentinel, .sentinel, .sentinel, .sentinel, .sentinel, .sentinel, .sentinel, .sentinel, .sentinel, .sentinel, .sentinel, .sentinel, .sentinel, .sentinel, .sentinel, .sentinel, .sentinel, .sentinel], laidTests := true, laidLooks := .later }
def QueryRunsCardSaid : Prop := Claim7.holds Tryz.pinned (.plain (OpenSpec.ofChange queryRunsSpec)) queryRunsCard

/-- THE TIED CARD OF 'pasodoblelaw11.QueryStands'. -/
def queryStandsCard : Claim7 := { stood := { row := queryStandsRow, standIns := [], harness := (true, "28ee6c2fcb3c7dfed19b2f1be3bb984c3135e420e3989e42a57fff24850bd83c"), looks := true }, kinds := [], alts := [], laidByText := true, laidKinds := [.data, .data, .data, .sentinel, .sentinel, .sentinel, .sentinel, .sentinel, .sentinel, .sentinel, .sentinel, .sentinel, .sentinel, .sentinel, .sentinel, .sentinel, .sentinel, .sentinel, .sentinel, .sentinel, .sentinel], laidTests := true, laidLooks := .later }
def QueryStandsCardSaid : Prop := Claim7.holds Tryz.pinned (.plain (OpenSpec.ofChange queryStandsSpec)) queryStandsCard

/-- THE TIED CARD OF 'pasodoblelaw11.QueryNarrows'. -/
def queryNarrowsCard : Claim7 := { stood := { row := queryNarrowsRow, standIns := [], harness := (true, "28ee6c2fcb3c7dfed19b2f1be3bb984c3135e420e3989e42a57fff24850bd83c"), looks := true }, kinds := [], alts := [], laidByText := true, laidKinds := [.data, .data, .data, .sentinel, .sentinel, .sentinel, .sentinel, .sentinel, .sentinel, .sentinel, .sentinel, .sentinel, .sentinel, .sentinel, .sentinel, .sentinel, .sentinel, .sentinel, .sentinel, .sentinel, .sentinel], laidTests := true, laidLooks := .later }
def QueryNarrowsCardSaid : Prop := Claim7.holds Tryz.pinned (.plain (OpenSpec.ofChange queryNarrowsSpec)) queryNarrowsCard

/-- THE SECOND FORM's CARD OF 'pasodoblelaw11.QueryRuns'. -/
def queryRunsUptoCard : Claim7 := { stood := { row := queryRunsUptoRow, standIns := [], harness := (true, "28ee6c2fcb3c7dfed19b2f1be3bb984c3135e420e3989e42a57fff24850bd83c"), looks := true }, kinds := [], alts := [], laidByText := true, laidKinds := [.data, .data, .data, .sentinel, .sentinel, .sentinel, .sentinel, .sentinel, .sentinel, .sentinel, .sentinel, .sentinel, .sentinel, .sentinel, .sentinel, .sentinel, .sentinel, .sentinel, .sentinel, .sentinel, .sentinel], laidTests := true, laidLooks := .later }
def QueryRunsUptoCardSaid : Prop := Claim7.holds Tryz.pinned (.plain (OpenSpec.upto queryRunsSpec)) queryRunsUptoCard

/-- THE SECOND FORM's CARD OF 'pasodoblelaw11.QueryStands'. -/
def queryStandsUptoCard : Claim7 := { stood := { row := queryStandsUptoRow, standIns := [], harness := (true, "28ee6c2fcb3c7dfed19b2f1be3bb984c3135e420e3989e42a57fff24850bd83c"), looks := true }, kinds := [], alts := [], laidByText := true, laidKinds := [.data, .data, .data, .sentinel, .sentinel, .sentinel, .sentinel, .sentinel, .sentinel, .sentinel, .sentinel, .sentinel, .sentinel, .sentinel, .sentinel, .sentinel, .sentinel, .sentinel, .sentinel, .sentinel, .sentinel], laidTests := true, laidLooks := .later }
def QueryStandsUptoCardSaid : Prop := Claim7.holds Tryz.pinned (.plain (OpenSpec.upto queryStandsSpec)) queryStandsUptoCard

/-- THE SECOND FORM's CARD OF 'pasodoblelaw11.QueryNarrows'. -/
def queryNarrowsUptoCard : Claim7 := { stood := { row := queryNarrowsUptoRow, standIns := [], harness := (true, "28ee6c2fcb3c7dfed19b2f1be3bb984c3135e420e3989e42a57fff24850bd83c"), looks := true }, kinds := [], alts := [], laidByText := true, laidKinds := [.data, .data, .data, .sentinel, .sentinel, .sentinel, .sentinel, .sentinel, .sentinel, .sentinel, .sentinel, .sentinel, .sentinel, .sentinel, .sentinel, .sentinel, .sentinel, .sentinel, .sentinel, .sentinel, .sentinel], laidTests := true, laidLooks := .later }
def QueryNarrowsUptoCardSaid : Prop := Claim7.holds Tryz.pinned (.plain (OpenSpec.upto queryNarrowsSpec)) queryNarrowsUptoCard
end Rows
end Go.Proofs.YtoafpfheopgdkaaGreatDoor
