/-
  DERIVED. GIVEN WITH THE SEED: THE CARDS: each row of YtdfefjalamohjaaGreatDoorRows.lean that lists a variable, with what it lists TIED to the program's text (the seventh form; the later family's looks); each row that meets fmt, with fmt's text TOLD by the authors' own Lean function (tested against real Go, not proved from fmt's source: count such statements apart). THE CARD IS WHAT COUNTS. Prove the row's statement (the work); the ties are given (YtdfefjalamohjaaGreatDoorTie.lean); close each card by the builder's one call (the guide's Derived/Test/ToyasCard.lean, 'card_holds'). Laid BY PROGRAM, IN A SANDBOX (cutbox-door.mjs). By AI agents, Wed Nov 11 2026. No macro, syntax, notation, axiom, sorry.
-/
import Derived.Test.YtdfefjalamohjaaGreatDoorRows
import GoSem.ClaimSeven
namespace Go.Proofs.YtdfefjalamohjaaGreatDoor
namespace Rows

/-- THE TIED CARD OF 'quashlaw18.SetNames'. -/
def setNamesCard : Claim7 := { stood := { row := setNamesRow, standIns := [], harness := (true, "2e27acbb8ee107c89df830ad4eeb5210e0471472aa5fd554afddfffc5a94ef71"), looks := true }, kinds := [], alts := [], laidByText := true, laidKinds := [.data, .data, .data, .data, .sentinel, .sentinel, .pinned], laidTests := true, laidLooks := .later }
def SetNamesCardSaid : Prop := Claim7.holds Tryz.pinned (.plain (OpenSpec.ofChange setNamesSpec)) setNamesCard

/-- THE TIED CARD OF 'quashlaw18.SetRooms'. -/
def setRoomsCard : Claim7 := { stood := { row := setRoomsRow, standIns := [], harness := (true, "2e27acbb8ee107c89df830ad4eeb5210e0471472aa5fd554afddfffc5a94ef71"), looks := true }, kinds := [], alts := [], laidByText := true, laidKinds := [.data, .data, .data, .data, .sentinel, .sentinel, .pinned], laidTests := true, laidLooks := .later }
def SetRoomsCardSaid : Prop := Claim7.holds Tryz.pinned (.plain (OpenSpec.ofChange setRoomsSpec)) setRoomsCard

/-- THE TIED CARD OF 'quashlaw18.SetReads'. -/
def setReadsCard : Claim7 := { stood := { row := setReadsRow, standIns := [], harness := (true, "2e27acbb8ee107c89df830ad4eeb5210e0471472aa5fd554afddfffc5a94ef71"), looks := true }, kinds := [], alts := [], laidByText := true, laidKinds := [.data, .data, .data, .data, .sentinel, .sentinel, .pinned], laidTests := true, laidLooks := .later }
def SetReadsCardSaid : Prop := Claim7.holds Tryz.pinned (.plain (OpenSpec.ofChange setReadsSpec)) setReadsCard

/-- THE TIED CARD OF 'quashlaw18.SetDoes'. -/
def setDoesCard : Claim7 := { stood := { row := setDoesRow, standIns := [], harness := (true, "2e27acbb8ee107c89df830ad4eeb5210e0471472aa5fd554afddfffc5a94ef71"), looks := true }, kinds := [], alts := [], laidByText := true, laidKinds := [.data, .data, .data, .data, .sentinel, .sentinel, .pinned], laidTests := true, laidLooks := .later }
def SetDoesCardSaid : Prop := Claim7.holds Tryz.pinned (.plain (OpenSpec.ofChange setDoesSpec)) setDoesCard

/-- THE TIED CARD OF 'quashlaw18.SetCodes'. -/
def setCodesCard : Claim7 := { stood := { row := setCodesRow, standIns := [], harness := (true, "2e27acbb8ee107c89df830ad4eeb5210e0471472aa5fd554afddfffc5a94ef71"), looks := true }, kinds := [], alts := [], laidByText := true, laidKinds := [.data, .data, .data, .data, .sentinel, .sentinel, .pinned], laidTests := true, laidLooks := .later }
def SetCodesCardSaid : Prop := Claim7.holds Tryz.pinned (.plain (OpenSpec.ofChange setCodesSpec)) setCodesCard

/-- THE TIED CARD OF 'quashlaw18.SetRuns'. -/
def setRunsCard : Claim7 := { stood := { row := setRunsRow, standIns := [], harness := (true, "2e27acbb8ee107c89df830ad4eeb5210e0471472aa5fd554afddfffc5a94ef71"), looks := true }, kinds := [], alts := [], laidByText := true, laidKinds := [.data, .data, .data, .data, .sentinel, .sentinel, .pinned], laidTests := true, laidLooks := .later }
def SetRunsCardSaid : Prop := Claim7.holds Tryz.pinned (.plain (OpenSpec.ofChange setRunsSpec)) setRunsCard

/-- THE SECOND FORM's CARD OF 'quashlaw18.SetNames'. -/
def setNamesUptoCard : Claim7 := { stood := { row := setNamesUptoRow, standIns := [], harness := (true, "2e27acbb8ee107c89df830ad4eeb5210e0471472aa5fd554afddfffc5a94ef71"), looks := true }, kinds := [], alts := [], laidByText := true, laidKinds := [.data, .data, .data, .data, .sentinel, .sentinel, .pinned], laidTests := true, laidLooks := .later }
def SetNamesUptoCardSaid : Prop := Claim7.holds Tryz.pinned (.plain (OpenSpec.upto setNamesSpec)) setNamesUptoCard

/-- THE SECOND FORM's CARD OF 'quashlaw18.SetRooms'. -/
def setRoomsUptoCard : Claim7 := { stood := { row := setRoomsUptoRow, standIns := [], harness := (true, "2e27acbb8ee107c89df830ad4eeb5210e0471472aa5fd554afddfffc5a94ef71"), looks := true }, kinds := [], alts := [], laidByText := true, laidKinds := [.data, .data, .data, .data, .sentinel, .sentinel, .pinned], laidTests := true, laidLooks := .later }
def SetRoomsUptoCardSaid : Prop := Claim7.holds Tryz.pinned (.plain (OpenSpec.upto setRoomsSpec)) setRoomsUptoCard

/-- THE SECOND FORM's CARD OF 'quashlaw18.SetReads'. -/
def setReadsUptoCard : Claim7 := { stood := { row := setReadsUptoRow, standIns := [], harness := (true, "2e27acbb8ee107c89df830ad4eeb5210e0471472aa5fd554afddfffc5a94ef71"), looks := true }, kinds := [], alts := [], laidByText := true, laidKinds := [.data, .data, .data, .data, .sentinel, .sentinel, .pinned], laidTests := true, laidLooks := .later }
def SetReadsUptoCardSaid : Prop := Claim7.holds Tryz.pinned (.plain (OpenSpec.upto setReadsSpec)) setReadsUptoCard

/-- THE SECOND FORM's CARD OF 'quashlaw18.SetDoes'. -/
def setDoesUptoCard : Claim7 := { stood := { row := setDoesUptoRow, standIns := [], harness := (true, "2e27acbb8ee107c89df830ad4eeb5210e0471472aa5fd554afddfffc5a94ef71"), looks := true }, kinds := [], alts := [], laidByText := true, laidKinds := [.data, .data, .data, .data, .sentinel, .sentinel, .pinned], laidTests := true, laidLooks := .later }
def SetDoesUptoCardSaid : Prop := Claim7.holds Tryz.pinned (.plain (OpenSpec.upto setDoesSpec)) setDoesUptoCard

/-- THE SECOND FORM's CARD OF 'quashlaw18.SetCodes'. -/
def setCodesUptoCard : Claim7 := { stood := { row := setCodesUptoRow, standIns := [], harness := (true, "2e27acbb8ee107c89df830ad4eeb5210e0471472aa5fd554afddfffc5a94ef71"), looks := true }, kinds := [], alts := [], laidByText := true, laidKinds := [.data, .data, .data, .data, .sentinel, .sentinel, .pinned], laidTests := true, laidLooks := .later }
def SetCodesUptoCardSaid : Prop := Claim7.holds Tryz.pinned (.plain (OpenSpec.upto setCodesSpec)) setCodesUptoCard

/-- THE SECOND FORM's CARD OF 'quashlaw18.SetRuns'. -/
def setRunsUptoCard : Claim7 := { stood := { row := setRunsUptoRow, standIns := [], harness := (true, "2e27acbb8ee107c89df830ad4eeb5210e0471472aa5fd554afddfffc5a94ef71"), looks := true }, kinds := [], alts := [], laidByText := true, laidKinds := [.data, .data, .data, .data, .sentinel, .sentinel, .pinned], laidTests := true, laidLooks := .later }
def SetRunsUptoCardSaid : Prop := Claim7.holds Tryz.pinned (.plain (OpenSpec.upto setRunsSpec)) setRunsUptoCard
end Rows
end Go.Proofs.YtdfefjalamohjaaGreatDoor
