/-
  DERIVED. GIVEN WITH THE SEED: THE CARDS: each row of YtmoekoilcdkhfabGreatDoorRows.lean that lists a variable, with what it lists TIED to the program's text (the seventh form; the later family's looks); each row that meets fmt, with fmt's text TOLD by the authors' own Lean function (tested against real Go, not proved from fmt's source: count such statements apart). THE CARD IS WHAT COUNTS. Prove the row's statement (the work); the ties are given (YtmoekoilcdkhfabGreatDoorTie.lean); close each card by the builder's one call (the guide's Derived/Test/ToyasCard.lean, 'card_holds'). Laid BY PROGRAM, IN A SANDBOX (cutbox-door.mjs). By AI agents, Wed Nov 11 2026. No macro, syntax, notation, axiom, sorry.
-/
import Derived.Test.YtmoekoilcdkhfabGreatDoorRows
import GoSem.ClaimSeven
namespace Go.Proofs.YtmoekoilcdkhfabGreatDoor
namespace Rows

/-- THE TIED CARD OF 'quashlaw17.BankLives'. -/
def bankLivesCard : Claim7 := { stood := { row := bankLivesRow, standIns := [], harness := (true, "38e4789ab332b133b74d60c95778f48f388f90ed3ca9854ac6f2716f2ff94a41"), looks := true }, kinds := [], alts := [], laidByText := true, laidKinds := [.data, .data, .data, .data, .sentinel, .sentinel, .pinned], laidTests := true, laidLooks := .later }
def BankLivesCardSaid : Prop := Claim7.holds Tryz.pinned (.plain (OpenSpec.ofChange bankLivesSpec)) bankLivesCard

/-- THE TIED CARD OF 'quashlaw17.BankSums'. -/
def bankSumsCard : Claim7 := { stood := { row := bankSumsRow, standIns := [], harness := (true, "38e4789ab332b133b74d60c95778f48f388f90ed3ca9854ac6f2716f2ff94a41"), looks := true }, kinds := [], alts := [], laidByText := true, laidKinds := [.data, .data, .data, .data, .sentinel, .sentinel, .pinned], laidTests := true, laidLooks := .later }
def BankSumsCardSaid : Prop := Claim7.holds Tryz.pinned (.plain (OpenSpec.ofChange bankSumsSpec)) bankSumsCard

/-- THE SECOND FORM's CARD OF 'quashlaw17.BankLives'. -/
def bankLivesUptoCard : Claim7 := { stood := { row := bankLivesUptoRow, standIns := [], harness := (true, "38e4789ab332b133b74d60c95778f48f388f90ed3ca9854ac6f2716f2ff94a41"), looks := true }, kinds := [], alts := [], laidByText := true, laidKinds := [.data, .data, .data, .data, .sentinel, .sentinel, .pinned], laidTests := true, laidLooks := .later }
def BankLivesUptoCardSaid : Prop := Claim7.holds Tryz.pinned (.plain (OpenSpec.upto bankLivesSpec)) bankLivesUptoCard

/-- THE SECOND FORM's CARD OF 'quashlaw17.BankSums'. -/
def bankSumsUptoCard : Claim7 := { stood := { row := bankSumsUptoRow, standIns := [], harness := (true, "38e4789ab332b133b74d60c95778f48f388f90ed3ca9854ac6f2716f2ff94a41"), looks := true }, kinds := [], alts := [], laidByText := true, laidKinds := [.data, .data, .data, .data, .sentinel, .sentinel, .pinned], laidTests := true, laidLooks := .later }
def BankSumsUptoCardSaid : Prop := Claim7.holds Tryz.pinned (.plain (OpenSpec.upto bankSumsSpec)) bankSumsUptoCard
end Rows
end Go.Proofs.YtmoekoilcdkhfabGreatDoor
