/-
  DERIVED. GIVEN WITH THE SEED: THE CARDS: each row of YtkhhiddemihnbaaDoorRows.lean that lists a variable, with what it lists TIED to the program's text (the seventh form; the later family's looks); each row that meets fmt, with fmt's text TOLD by the authors' own Lean function (tested against real Go, not proved from fmt's source: count such statements apart). THE CARD IS WHAT COUNTS. Prove the row's statement (the work); the ties are given (YtkhhiddemihnbaaDoorTie.lean); close each card by the builder's one call (the guide's Derived/Test/ToyasCard.lean, 'card_holds'). Laid BY PROGRAM, IN A SANDBOX (cutbox-door.mjs). By AI agents, Wed Nov 11 2026. No macro, syntax, notation, axiom, sorry.
-/
import Derived.Test.YtkhhiddemihnbaaDoorRows
import GoSem.ClaimSeven
namespace Go.Proofs.YtkhhiddemihnbaaDoor
namespace Rows

/-- THE TIED CARD OF 'pasodoblelaw16.CodeTable'. -/
def codeTableCard : Claim7 := { stood := { row := codeTableRow, standIns := [], harness := (true, "2bfdaf331d6b9db4b24ab414e5677bc4f47cfe4a70d9fb9473ff47319eea1a0b"), looks := true }, kinds := [], alts := [], laidByText := true, laidKinds := [.data, .data, .data, .sentinel, .sentinel, .sentinel, .sentinel, .sentinel, .data], laidTests := true, laidLooks := .later }
def CodeTableCardSaid : Prop := Claim7.holds Tryd.pinned (.plain (OpenSpec.ofChange codeTableSpec)) codeTableCard

/-- THE TIED CARD OF 'pasodoblelaw16.CodeChecks'. -/
def codeChecksCard : Claim7 := { stood := { row := codeChecksRow, standIns := [], harness := (true, "2bfdaf331d6b9db4b24ab414e5677bc4f47cfe4a70d9fb9473ff47319eea1a0b"), looks := true }, kinds := [], alts := [], laidByText := true, laidKinds := [.data, .data, .data, .sentinel, .sentinel, .sentinel, .sentinel, .sentinel, .sentinel, .sentinel, .sentinel, .sentinel, .sentinel, .sentinel, .sentinel, .sentinel, .sentinel, .sentinel, .sentinel, .sentinel, .sentinel, .data], laidTests := true, laidLooks := .later }
def CodeChecksCardSaid : Prop := Claim7.holds Tryd.pinned (.plain (OpenSpec.ofChange codeChecksSpec)) codeChecksCard

/-- THE TIED CARD OF 'pasodoblelaw16.CodeWalks'. -/
def codeWalksCard : Claim7 := { stood := { row := codeWalksRow, standIns := [], harness := (true, "2bfdaf331d6b9db4b24ab414e5677bc4f47cfe4a70d9fb9473ff47319eea1a0b"), looks := true }, kinds := [], alts := [], laidByText := true, laidKinds := [.data, .data, .data, .sentinel, .sentinel, .sentinel, .sentinel, .sentinel, .data], laidTests := true, laidLooks := .later }
def CodeWalksCardSaid : Prop := Claim7.holds Tryd.pinned (.plain (OpenSpec.ofChange codeWalksSpec)) codeWalksCard

/-- THE TIED CARD OF 'pasodoblelaw16.CodeWords'. -/
def codeWordsCard : Claim7 := { stood := { row := codeWordsRow, standIns := [], harness := (true, "2bfdaf331d6b9db4b24ab414e5677bc4f47cfe4a70d9fb9473ff47319eea1a0b"), looks := true }, kinds := [], alts := [], laidByText := true, laidKinds := [.data, .data, .data, .sentinel, .sentinel, .sentinel, .sentinel, .sentinel, .data], laidTests := true, laidLooks := .later }
def CodeWordsCardSaid : Prop := Claim7.holds Tryd.pinned (.plain (OpenSpec.ofChange codeWordsSpec)) codeWordsCard

/-- THE TIED CARD OF 'pasodoblelaw16.CodeShown'. -/
def codeShownCard : Claim7 := { stood := { row := codeShownRow, standIns := [], harness := (true, "2bfdaf331d6b9db4b24ab414e5677bc4f47cfe4a70d9fb9473ff47319eea1a0b"), looks := true }, kinds := [], alts := [], laidByText := true, laidKinds := [.data, .data, .data, .sentinel, .sentinel, .sentinel, .sentinel, .sentinel, .data], laidTests := true, laidLooks := .later }
def CodeShownCardSaid : Prop := Claim7.holds Tryd.pinned (.plain (OpenSpec.ofChange codeShownSpec)) codeShownCard

/-- THE TIED CARD OF 'pasodoblelaw16.CodeParts'. -/
def codePartsCard : Claim7 := { stood := { row := codePartsRow, standIns := [], harness := (true, "2bfdaf331d6b9db4b24ab414e5677bc4f47cfe4a70d9fb9473ff47319eea1a0b"), looks := true }, kinds := [], alts := [], laidByText := true, laidKinds := [.data, .data, .data, .sentinel, .sentinel, .sentinel, .sentinel, .sentinel, .data], laidTests := true, laidLooks := .later }
def CodePartsCardSaid : Prop := Claim7.holds Tryd.pinned (.plain (OpenSpec.ofChange codePartsSpec)) codePartsCard

/-- THE SECOND FORM's CARD OF 'pasodoblelaw16.CodeTable'. -/
def codeTableUptoCard : Claim7 := { stood := { row := codeTableUptoRow, standIns := [], harness := (true, "2bfdaf331d6b9db4b24ab414e5677bc4f47cfe4a70d9fb9473ff47319eea1a0b"), looks := true }, kinds := [], alts := [], laidByText := true, laidKinds := [.data, .data, .data, .sentinel, .sentinel, .sentinel, .sentinel, .sentinel, .data], laidTests := true, laidLooks := .later }
def CodeTableUptoCardSaid : Prop := Claim7.holds Tryd.pinned (.plain (OpenSpec.upto codeTableSpec)) codeTableUptoCard

/-- THE SECOND FORM's CARD OF 'pasodoblelaw16.CodeChecks'. -/
def codeChecksUptoCard : Claim7 := { stood := { row := codeChecksUptoRow, standIns := [], harness := (true, "2bfdaf331d6b9db4b24ab414e5677bc4f47cfe4a70d9fb9473ff47319eea1a0b"), looks := true }, kinds := [], alts := [], laidByText := true, laidKinds := [.data, .data, .data, .sentinel, .sentinel, .sentinel, .sentinel, .sentinel, .sentinel, .sentinel, .sentinel, .sentinel, .sentinel, .sentinel, .sentinel, .sentinel, .sentinel, .sentinel, .sentinel, .sentinel, .sentinel, .data], laidTests := true, laidLooks := .later }
def CodeChecksUptoCardSaid : Prop := Claim7.holds Tryd.pinned (.plain (OpenSpec.upto codeChecksSpec)) codeChecksUptoCard

/-- THE SECOND FORM's CARD OF 'pasodoblelaw16.CodeWalks'. -/
def codeWalksUptoCard : Claim7 := { stood := { row := codeWalksUptoRow, standIns := [], harness := (true, "2bfdaf331d6b9db4b24ab414e5677bc4f47cfe4a70d9fb9473ff47319eea1a0b"), looks := true }, kinds := [], alts := [], laidByText := true, laidKinds := [.data, .data, .data, .sentinel, .sentinel, .sentinel, .sentinel, .sentinel, .data], laidTests := true, laidLooks := .later }
def CodeWalksUptoCardSaid : Prop := Claim7.holds Tryd.pinned (.plain (OpenSpec.upto codeWalksSpec)) codeWalksUptoCard

/-- THE SECOND FORM's CARD OF 'pasodoblelaw16.CodeWords'. -/
def codeWordsUptoCard : Claim7 := { stood := { row := codeWordsUptoRow, standIns := [], harness := (true, "2bfdaf331d6b9db4b24ab414e5677bc4f47cfe4a70d9fb9473ff47319eea1a0b"), looks := true }, kinds := [], alts := [], laidByText := true, laidKinds := [.data, .data, .data, .sentinel, .sentinel, .sentinel, .sentinel, .sentinel, .data], laidTests := true, laidLooks := .later }
def CodeWordsUptoCardSaid : Prop := Claim7.holds Tryd.pinned (.plain (OpenSpec.upto codeWordsSpec)) codeWordsUptoCard

/-- THE SECOND FORM's CARD OF 'pasodoblelaw16.CodeShown'. -/
def codeShownUptoCard : Claim7 := { stood := { row := codeShownUptoRow, standIns := [], harness := (true, "2bfdaf331d6b9db4b24ab414e5677bc4f47cfe4a70d9fb9473ff47319eea1a0b"), looks := true }, kinds := [], alts := [], laidByText := true, laidKinds := [.data, .data, .data, .sentinel, .sentinel, .sentinel, .sentinel, .sentinel, .data], laidTests := true, laidLooks := .later }
def CodeShownUptoCardSaid : Prop := Claim7.holds Tryd.pinned (.plain (OpenSpec.upto codeShownSpec)) codeShownUptoCard

/-- THE SECOND FORM's CARD OF 'pasodoblelaw16.CodeParts'. -/
def codePartsUptoCard : Claim7 := { stood := { row := codePartsUptoRow, standIns := [], harness := (true, "2bfdaf331d6b9db4b24ab414e5677bc4f47cfe4a70d9fb9473ff47319eea1a0b"), looks := true }, kinds := [], alts := [], laidByText := true, laidKinds := [.data, .data, .data, .sentinel, .sentinel, .sentinel, .sentinel, .sentinel, .data], laidTests := true, laidLooks := .later }
def CodePartsUptoCardSaid : Prop := Claim7.holds Tryd.pinned (.plain (OpenSpec.upto codePartsSpec)) codePartsUptoCard
end Rows
end Go.Proofs.YtkhhiddemihnbaaDoor
