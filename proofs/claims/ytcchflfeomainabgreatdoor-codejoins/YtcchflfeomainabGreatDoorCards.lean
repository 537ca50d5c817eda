/-
  DERIVED. GIVEN WITH THE SEED: THE CARDS: each row of YtcchflfeomainabGreatDoorRows.lean that lists a variable, with what it lists TIED to the program's text (the seventh form; the later family's looks); each row that meets fmt, with fmt's text TOLD by the authors' own Lean function (tested against real Go, not proved from fmt's source: count such statements apart). THE CARD IS WHAT COUNTS. Prove the row's statement (the work); the ties are given (YtcchflfeomainabGreatDoorTie.lean); close each card by the builder's one call (the guide's Derived/Test/ToyasCard.lean, 'card_holds'). Laid BY PROGRAM, IN A SANDBOX (cutbox-door.mjs). By AI agents, Wed Nov 11 2026. No macro, syntax, notation, axiom, sorry.
-/
import Derived.Test.YtcchflfeomainabGreatDoorRows
import GoSem.ClaimSeven
namespace Go.Proofs.YtcchflfeomainabGreatDoor
namespace Rows

/-- THE TIED CARD OF 'quashlaw15.CodeJoins'. -/
def codeJoinsCard : Claim7 := { stood := { row := codeJoinsRow, standIns := [], harness := (true, "d7e3eeaae22047aa6b5ca3debe4cb1ad426d0e9a6dda72adca692750b9a9dc15"), looks := true }, kinds := [], alts := [], laidByText := true, laidKinds := [.data, .data, .data, .data, .sentinel, .sentinel, .pinned], laidTests := true, laidLooks := .later }
def CodeJoinsCardSaid : Prop := Claim7.holds Tryz.pinned (.plain (OpenSpec.ofChange codeJoinsSpec)) codeJoinsCard

/-- THE TIED CARD OF 'quashlaw15.CodeNested'. -/
def codeNestedCard : Claim7 := { stood := { row := codeNestedRow, standIns := [], harness := (true, "d7e3eeaae22047aa6b5ca3debe4cb1ad426d0e9a6dda72adca692750b9a9dc15"), looks := true }, kinds := [], alts := [], laidByText := true, laidKinds := [.data, .data, .data, .data, .sentinel, .sentinel, .pinned], laidTests := true, laidLooks := .later }
def CodeNestedCardSaid : Prop := Claim7.holds Tryz.pinned (.plain (OpenSpec.ofChange codeNestedSpec)) codeNestedCard

/-- THE TIED CARD OF 'quashlaw15.CodeDeaf'. -/
def codeDeafCard : Claim7 := { stood := { row := codeDeafRow, standIns := [], harness := (true, "d7e3eeaae22047aa6b5ca3debe4cb1ad426d0e9a6dda72adca692750b9a9dc15"), looks := true }, kinds := [], alts := [], laidByText := true, laidKinds := [.data, .data, .data, .data, .sentinel, .sentinel, .pinned], laidTests := true, laidLooks := .later }
def CodeDeafCardSaid : Prop := Claim7.holds Tryz.pinned (.plain (OpenSpec.ofChange codeDeafSpec)) codeDeafCard

/-- THE SECOND FORM's CARD OF 'quashlaw15.CodeJoins'. -/
def codeJoinsUptoCard : Claim7 := { stood := { row := codeJoinsUptoRow, standIns := [], harness := (true, "d7e3eeaae22047aa6b5ca3debe4cb1ad426d0e9a6dda72adca692750b9a9dc15"), looks := true }, kinds := [], alts := [], laidByText := true, laidKinds := [.data, .data, .data, .data, .sentinel, .sentinel, .pinned], laidTests := true, laidLooks := .later }
def CodeJoinsUptoCardSaid : Prop := Claim7.holds Tryz.pinned (.plain (OpenSpec.upto codeJoinsSpec)) codeJoinsUptoCard

/-- THE SECOND FORM's CARD OF 'quashlaw15.CodeNested'. -/
def codeNestedUptoCard : Claim7 := { stood := { row := codeNestedUptoRow, standIns := [], harness := (true, "d7e3eeaae22047aa6b5ca3debe4cb1ad426d0e9a6dda72adca692750b9a9dc15"), looks := true }, kinds := [], alts := [], laidByText := true, laidKinds := [.data, .data, .data, .data, .sentinel, .sentinel, .pinned], laidTests := true, laidLooks := .later }
def CodeNestedUptoCardSaid : Prop := Claim7.holds Tryz.pinned (.plain (OpenSpec.upto codeNestedSpec)) codeNestedUptoCard

/-- THE SECOND FORM's CARD OF 'quashlaw15.CodeDeaf'. -/
def codeDeafUptoCard : Claim7 := { stood := { row := codeDeafUptoRow, standIns := [], harness := (true, "d7e3eeaae22047aa6b5ca3debe4cb1ad426d0e9a6dda72adca692750b9a9dc15"), looks := true }, kinds := [], alts := [], laidByText := true, laidKinds := [.data, .data, .data, .data, .sentinel, .sentinel, .pinned], laidTests := true, laidLooks := .later }
def CodeDeafUptoCardSaid : Prop := Claim7.holds Tryz.pinned (.plain (OpenSpec.upto codeDeafSpec)) codeDeafUptoCard
end Rows
end Go.Proofs.YtcchflfeomainabGreatDoor
