/-
  NARROWER THAN 'FOR EVERY INPUT', by the rows' own cells (each row's printed sentence says how): BadgeOnce: laid · BadgeBack: laid · BadgeStays: laid.
  DERIVED. THE GIVEN ROWS OF THIS SEAT. 3 by the template 'for every input the law returns true; each argument reads behind the call as it read before'; 0 by the template 'total and deterministic' (their statements: YtagjmggiaffihabDoorTotals.lean).
  GIVEN WITH THE SEED: the statements are not yours to turn. If you find one false, say at which input.
  Laid BY PROGRAM, IN A SANDBOX (cutbox-rows.mjs): the forced cells as the released guide's own fill.sh prints them over the translation bfd82fb599a89959… (all of the seat's roots in one cut). By AI agents, Wed Nov 11 2026. No macro, syntax, notation, axiom, sorry.
-/
import Derived.Test.YtagjmggiaffihabDoorChecked
import GoSem.Claim
import GoSem.ClaimJoined
import GoSem.ClaimMapViews
import Derived.JoinedTies
import Derived.KernelRfl
namespace Go.Proofs.YtagjmggiaffihabDoor
/- THE CELL 'sum', in the pinned program and in every row, IS THE sha256 OF THE DUMP (.gsa) THAT YtagjmggiaffihabDoorProg.lean LOADS. Nothing in Lean hashes anything: it is a label: what it is worth is what the hold of that sum in a sandbox is worth. -/
noncomputable def Tryd.pinned : Pinned := { name := "ytagjmggiaffihabdoor", sum := "bfd82fb599a899591d142ac3307120b60206c8088c761f2644fbe78eb082a0a5", checked := Tryd.checked }
namespace Rows
def none {H : Type} : Left H := { results := [], args := [] }

/- WHAT THE LISTED PACKAGE-LEVEL VARIABLES READ AS WHEN THE CALL BEGINS. Each datum BY PROGRAM (the guide's laid-datum.mjs) off the statement by which the dump's own 'gosem.cut.vars' lays the variable. In a bare row this is a premise. The card (YtagjmggiaffihabDoorCards.lean) ties it to the program's text. -/
def laid_pasodoble_api_ErrArg {H : Type} : DataW H := .iface "*errors.errorString" (.ptr (.agg [.lit (.string [97, 110, 32, 97, 114, 103, 117, 109, 101, 110, 116, 32, 116, 104, 97, 116, 32, 99, 97, 110, 39, 116, 32, 98, 101])]))
def laid_pasodoble_api_ErrNil {H : Type} : DataW H := .iface "*errors.errorString" (.ptr (.agg [.lit (.string [97, 32, 110, 105, 108, 32, 116, 104, 105, 110, 103])]))
def laid_pasodoble_api_ErrFull {H : Type} : DataW H := .iface "*errors.errorString" (.ptr (.agg [.lit (.string [110, 111, 32, 114, 111, 111, 109])]))
def laid_pasodoble_api_ErrNone {H : Type} : DataW H := .iface "*errors.errorString" (.ptr (.agg [.lit (.string [116, 104, 101, 114, 101, 32, 105, 115, 32, 110, 111, 110, 101])]))
def laid_pasodoble_api_ErrTwice {H : Type} : DataW H := .iface "*errors.errorString" (.ptr (.agg [.lit (.string [116, 104, 101, 114, 101, 32, 97, 108, 114, 101, 97, 100, 121])]))

/-- 'pasodoblelaw10.BadgeOnce': WHATEVER THE INPUT: true; the input reads as it did. -/
def badgeOnceSpec : ChangeSpec := { name := "badgeOnce", fn := fun _ => fun
  | [d] => { results := [.lit (.bool true)], args := [d] }
  | _ => none }
def badgeOnceRow : OpenClaim := { program := "ytagjmggiaffihabdoor", sum := "bfd82fb599a899591d142ac3307120b60206c8088c761f2644fbe78eb082a0a5", func := "pasodoble/pasodoblelaw10.BadgeOnce", spec := "badgeOnce", inPlace := ["internal/reflectlite.TypeOf"], unfollowed := true, recurses := true, named := ["pasodoble/api.ErrTwice", "pasodoble/api.ErrArg", "pasodoble/api.ErrNil", "pasodoble/api.ErrFull", "pasodoble/api.ErrNone"], plainKeys := false, apart := false, laid := [("pasodoble/api.ErrArg", laid_pasodoble_api_ErrArg), ("pasodoble/api.ErrNil", laid_pasodoble_api_ErrNil), ("pasodoble/api.ErrFull", laid_pasodoble_api_ErrFull), ("pasodoble/api.ErrNone", laid_pasodoble_api_ErrNone), ("pasodoble/api.ErrTwice", laid_pasodoble_api_ErrTwice)] }
def BadgeOnceSaid : Prop := badgeOnceRow.holds Tryd.pinned (OpenSpec.ofChange badgeOnceSpec)

/-- ITS FALSE NEIGHBOUR: 'it returns false'. Refute it at one input. -/
def badgeOnceWrong : ChangeSpec := { name := "badgeOnce", fn := fun _ => fun
  | [d] => { results := [.lit (.bool false)], args := [d] }
  | _ => none }
def BadgeOnceWrongFalsely : Prop := badgeOnceRow.holds Tryd.pinned (OpenSpec.ofChange badgeOnceWrong)

/-- 'pasodoblelaw10.BadgeBack': WHATEVER THE INPUT: true; the input reads as it did. -/
def badgeBackSpec : ChangeSpec := { name := "badgeBack", fn := fun _ => fun
  | [d1, d2] => { results := [.lit (.bool true)], args := [d1, d2] }
  | _ => none }
def badgeBackRow : OpenClaim := { program := "ytagjmggiaffihabdoor", sum := "bfd82fb599a899591d142ac3307120b60206c8088c761f2644fbe78eb082a0a5", func := "pasodoble/pasodoblelaw10.BadgeBack", spec := "badgeBack", inPlace := ["internal/reflectlite.TypeOf"], unfollowed := true, recurses := true, named := ["pasodoble/api.ErrTwice", "pasodoble/api.ErrArg", "pasodoble/api.ErrNil", "pasodoble/api.ErrFull", "pasodoble/api.ErrNone"], plainKeys := false, apart := false, laid := [("pasodoble/api.ErrArg", laid_pasodoble_api_ErrArg), ("pasodoble/api.ErrNil", laid_pasodoble_api_ErrNil), ("pasodoble/api.ErrFull", laid_pasodoble_api_ErrFull), ("pasodoble/api.ErrNone", laid_pasodoble_api_ErrNone), ("pasodoble/api.ErrTwice", laid_pasodoble_api_ErrTwice)] }
def BadgeBackSaid : Prop := badgeBackRow.holds Tryd.pinned (OpenSpec.ofChange badgeBackSpec)

/-- ITS FALSE NEIGHBOUR: 'it returns false'. Refute it at one input. -/
def badgeBackWrong : ChangeSpec := { name := "badgeBack", fn := fun _ => fun
  | [d1, d2] => { results := [.lit (.bool false)], args := [d1, d2] }
  | _ => none }
def BadgeBackWrongFalsely : Prop := badgeBackRow.holds Tryd.pinned (OpenSpec.ofChange badgeBackWrong)

/-- 'pasodoblelaw10.BadgeStays': WHATEVER THE INPUT: true; the input reads as it did. -/
def badgeStaysSpec : ChangeSpec := { name := "badgeStays", fn := fun _ => fun
  | [d1, d2, d3] => { results := [.lit (.bool true)], args := [d1, d2, d3] }
  | _ => none }
def badgeStaysRow : OpenClaim := { program := "ytagjmggiaffihabdoor", sum := "bfd82fb599a899591d142ac3307120b60206c8088c761f2644fbe78eb082a0a5", func := "pasodoble/pasodoblelaw10.BadgeStays", spec := "badgeStays", inPlace := ["internal/reflectlite.TypeOf"], unfollowed := true, recurses := true, named := ["pasodoble/api.ErrTwice", "pasodoble/api.ErrArg", "pasodoble/api.ErrNil", "pasodoble/api.ErrFull", "pasodoble/api.ErrNone"], plainKeys := false, apart := false, laid := [("pasodoble/api.ErrArg", laid_pasodoble_api_ErrArg), ("pasodoble/api.ErrNil", laid_pasodoble_api_ErrNil), ("pasodoble/api.ErrFull", laid_pasodoble_api_ErrFull), ("pasodoble/api.ErrNone", laid_pasodoble_api_ErrNone), ("pasodoble/api.ErrTwice", laid_pasodoble_api_ErrTwice)] }
def BadgeStaysSaid : Prop := badgeStaysRow.holds Tryd.pinned (OpenSpec.ofChange badgeStaysSpec)

/-- ITS FALSE NEIGHBOUR: 'it returns false'. Refute it at one input. -/
def badgeStaysWrong : ChangeSpec := { name := "badgeStays", fn := fun _ => fun
  | [d1, d2, d3] => { results := [.lit (.bool false)], args := [d1, d2, d3] }
  | _ => none }
def BadgeStaysWrongFalsely : Prop := badgeStaysRow.holds Tryd.pinned (OpenSpec.ofChange badgeStaysWrong)

/- THE SECOND FORM. 'bulk': how many values and letters a reading holds, each counted each time it is reached (what is shared counts as often as it is met; a slice's spare places count too). A statement '..UptoSaid' is the law's where the arguments, and the package variables that the reading takes, are together of bulk at most 1048576: NARROWER than '..Said'. Prove '..Said' where nothing that the law and all that it calls make is longer than what came in: it says more and counts as full. Else prove '..UptoSaid'. A law counts once. -/
mutual
def uptoBulk {H : Type} : DataW H → Nat
  | .lit (.string bytes) => bytes.length + 1
  | .lit _ => 1
  | .nil => 1
  | .ptr d => uptoBulk d + 1
  | .slice elems spare => uptoBulkAll elems + uptoBulkAll spare + 1
  | .agg parts => uptoBulkAll parts + 1
  | .iface _ d => uptoBulk d + 1
  | .map entries => uptoBulkEntries entries + 1
  | .held _ => 1
def uptoBulkAll {H : Type} : List (DataW H) → Nat
  | [] => 0
  | d :: r => uptoBulk d + uptoBulkAll r
def uptoBulkEntries {H : Type} : List (Lit × DataW H) → Nat
  | [] => 0
  | x :: r => uptoBulkEntry x + uptoBulkEntries r
def uptoBulkEntry {H : Type} : Lit × DataW H → Nat
  | (.string bytes, d) => bytes.length + uptoBulk d + 1
  | (_, d) => uptoBulk d + 1
 end
def uptoSmall : (H : Type) → List (DataW H) → Bool := fun _ ds => decide (uptoBulkAll ds ≤ 1048576)
def OpenSpec.upto (s : _root_.Go.ChangeSpec) : _root_.Go.OpenSpec := { _root_.Go.OpenSpec.ofChange s with cond := some uptoSmall }

/-- 'pasodoblelaw10.BadgeOnce', WHERE WHAT IT READS IS OF BULK AT MOST 1048576: true; the input reads as it did. -/
def badgeOnceUptoRow : OpenClaim := { program := "ytagjmggiaffihabdoor", sum := "bfd82fb599a899591d142ac3307120b60206c8088c761f2644fbe78eb082a0a5", func := "pasodoble/pasodoblelaw10.BadgeOnce", spec := "badgeOnce", inPlace := ["internal/reflectlite.TypeOf"], unfollowed := true, recurses := true, named := ["pasodoble/api.ErrTwice", "pasodoble/api.ErrArg", "pasodoble/api.ErrNil", "pasodoble/api.ErrFull", "pasodoble/api.ErrNone"], plainKeys := false, apart := false, laid := [("pasodoble/api.ErrArg", laid_pasodoble_api_ErrArg), ("pasodoble/api.ErrNil", laid_pasodoble_api_ErrNil), ("pasodoble/api.ErrFull", laid_pasodoble_api_ErrFull), ("pasodoble/api.ErrNone", laid_pasodoble_api_ErrNone), ("pasodoble/api.ErrTwice", laid_pasodoble_api_ErrTwice)], narrowed := true }
def BadgeOnceUptoSaid : Prop := badgeOnceUptoRow.holds Tryd.pinned (OpenSpec.upto badgeOnceSpec)

/-- 'pasodoblelaw10.BadgeBack', WHERE WHAT IT READS IS OF BULK AT MOST 1048576: true; the input reads as it did. -/
def badgeBackUptoRow : OpenClaim := { program := "ytagjmggiaffihabdoor", sum := "bfd82fb599a899591d142ac3307120b60206c8088c761f2644fbe78eb082a0a5", func := "pasodoble/pasodoblelaw10.BadgeBack", spec := "badgeBack", inPlace := ["internal/reflectlite.TypeOf"], unfollowed := true, recurses := true, named := ["pasodoble/api.ErrTwice", "pasodoble/api.ErrArg", "pasodoble/api.ErrNil", "pasodoble/api.ErrFull", "pasodoble/api.ErrNone"], plainKeys := false, apart := false, laid := [("pasodoble/api.ErrArg", laid_pasodoble_api_ErrArg), ("pasodoble/api.ErrNil", laid_pasodoble_api_ErrNil), ("pasodoble/api.ErrFull", laid_pasodoble_api_ErrFull), ("pasodoble/api.ErrNone", laid_pasodoble_api_ErrNone), ("pasodoble/api.ErrTwice", laid_pasodoble_api_ErrTwice)], narrowed := true }
def BadgeBackUptoSaid : Prop := badgeBackUptoRow.holds Tryd.pinned (OpenSpec.upto badgeBackSpec)

/-- 'pasodoblelaw10.BadgeStays', WHERE WHAT IT READS IS OF BULK AT MOST 1048576: true; the input reads as it did. -/
def badgeStaysUptoRow : OpenClaim := { program := "ytagjmggiaffihabdoor", sum := "bfd82fb599a899591d142ac3307120b60206c8088c761f2644fbe78eb082a0a5", func := "pasodoble/pasodoblelaw10.BadgeStays", spec := "badgeStays", inPlace := ["internal/reflectlite.TypeOf"], unfollowed := true, recurses := true, named := ["pasodoble/api.ErrTwice", "pasodoble/api.ErrArg", "pasodoble/api.ErrNil", "pasodoble/api.ErrFull", "pasodoble/api.ErrNone"], plainKeys := false, apart := false, laid := [("pasodoble/api.ErrArg", laid_pasodoble_api_ErrArg), ("pasodoble/api.ErrNil", laid_pasodoble_api_ErrNil), ("pasodoble/api.ErrFull", laid_pasodoble_api_ErrFull), ("pasodoble/api.ErrNone", laid_pasodoble_api_ErrNone), ("pasodoble/api.ErrTwice", laid_pasodoble_api_ErrTwice)], narrowed := true }
def BadgeStaysUptoSaid : Prop := badgeStaysUptoRow.holds Tryd.pinned (OpenSpec.upto badgeStaysSpec)

end Rows
end Go.Proofs.YtagjmggiaffihabDoor
