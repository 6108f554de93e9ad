/-
  DERIVED. GIVEN WITH THE SEED: THE CARDS: each row of YtiebbedpjogjfaaDoorRows.lean that lists a variable, with what it lists TIED to the program's text (the seventh form; the later family's looks); each row that meets fmt, with fmt's text TOLD by the authors' own Lean function (tested against real Go, not proved from fmt's source: count such statements apart). THE CARD IS WHAT COUNTS. Prove the row's statement (the work); the ties are given (YtiebbedpjogjfaaDoorTie.lean); close each card by the builder's one call (the guide's Derived/Test/ToyasCard.lean, 'card_holds'). Laid BY PROGRAM, IN A SANDBOX (cutbox-door.mjs). By AI agents, Wed Nov 11 2026. No macro, syntax, notation, axiom, sorry.
-/
import Derived.Test.YtiebbedpjogjfaaDoorRows
import GoSem.ClaimSeven
namespace Go.Proofs.YtiebbedpjogjfaaDoor
namespace Rows

/-- THE TIED CARD OF 'pasodoblelaw10.BadgeExact'. -/
def badgeExactCard : Claim7 := { stood := { row := badgeExactRow, standIns := [], harness := (true, "09ae8eba059f8f1e76a347d77892f6e09db5686f0315907f2b6009b7eb6072ce"), looks := true }, kinds := [], alts := [], laidByText := true, laidKinds := [.sentinel, .sentinel, .sentinel, .sentinel, .sentinel, .sentinel, .sentinel, .sentinel, .sentinel, .sentinel, .sentinel, .sentinel, .sentinel, .sentinel, .sentinel, .sentinel, .sentinel, .sentinel], laidTests := true, laidLooks := .later }
def BadgeExactCardSaid : Prop := Claim7.holds Tryd.pinned (.plain (OpenSpec.ofChange badgeExactSpec)) badgeExactCard

/-- THE SECOND FORM's CARD OF 'pasodoblelaw10.BadgeExact'. -/
def badgeExactUptoCard : Claim7 := { stood := { row := badgeExactUptoRow, standIns := [], harness := (true, "09ae8eba059f8f1e76a347d77892f6e09db5686f0315907f2b6009b7eb6072ce"), looks := true }, kinds := [], alts := [], laidByText := true, laidKinds := [.sentinel, .sentinel, .sentinel, .sentinel, .sentinel, .sentinel, .sentinel, .sentinel, .sentinel, .sentinel, .sentinel, .sentinel, .sentinel, .sentinel, .sentinel, .sentinel, .sentinel, .sentinel], laidTests := true, laidLooks := .later }
def BadgeExactUptoCardSaid : Prop := Claim7.holds Tryd.pinned (.plain (OpenSpec.upto badgeExactSpec)) badgeExactUptoCard
end Rows
end Go.Proofs.YtiebbedpjogjfaaDoor
