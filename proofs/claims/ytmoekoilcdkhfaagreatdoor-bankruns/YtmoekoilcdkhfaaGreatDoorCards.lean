/-
  DERIVED. GIVEN WITH THE SEED: THE CARDS: each row of YtmoekoilcdkhfaaGreatDoorRows.lean that lists a variable, with what it lists TIED to the program's text (the seventh form; the later family's looks); each row that meets fmt, with fmt's text TOLD by the authors' own Lean function (tested against real Go, not proved from fmt's source: count such statements apart). THE CARD IS WHAT COUNTS. Prove the row's statement (the work); the ties are given (YtmoekoilcdkhfaaGreatDoorTie.lean); close each card by the builder's one call (the guide's Derived/Test/ToyasCard.lean, 'card_holds'). Laid BY PROGRAM, IN A SANDBOX (cutbox-door.mjs). By AI agents, Wed Nov 11 2026. No macro, syntax, notation, axiom, sorry.
-/
import Derived.Test.YtmoekoilcdkhfaaGreatDoorRows
import GoSem.ClaimSeven
namespace Go.Proofs.YtmoekoilcdkhfaaGreatDoor
namespace Rows

/-- THE TIED CARD OF 'quashlaw17.BankNames'. -/
def bankNamesCard : Claim7 := { stood := { row := bankNamesRow, standIns := [], harness := (true, "b15791d3d37cb4baa2e854f5e9f6466cc2826482340098427261e637413870df"), looks := true }, kinds := [], alts := [], laidByText := true, laidKinds := [.data, .data, .data, .data, .sentinel, .sentinel, .pinned], laidTests := true, laidLooks := .later }
def BankNamesCardSaid : Prop := Claim7.holds Tryz.pinned (.plain (OpenSpec.ofChange bankNamesSpec)) bankNamesCard

/-- THE TIED CARD OF 'quashlaw17.BankRooms'. -/
def bankRoomsCard : Claim7 := { stood := { row := bankRoomsRow, standIns := [], harness := (true, "b15791d3d37cb4baa2e854f5e9f6466cc2826482340098427261e637413870df"), looks := true }, kinds := [], alts := [], laidByText := true, laidKinds := [.data, .data, .data, .data, .sentinel, .sentinel, .pinned], laidTests := true, laidLooks := .later }
def BankRoomsCardSaid : Prop := Claim7.holds Tryz.pinned (.plain (OpenSpec.ofChange bankRoomsSpec)) bankRoomsCard

/-- THE TIED CARD OF 'quashlaw17.BankReads'. -/
def bankReadsCard : Claim7 := { stood := { row := bankReadsRow, standIns := [], harness := (true, "b15791d3d37cb4baa2e854f5e9f6466cc2826482340098427261e637413870df"), looks := true }, kinds := [], alts := [], laidByText := true, laidKinds := [.data, .data, .data, .data, .sentinel, .sentinel, .pinned], laidTests := true, laidLooks := .later }
def BankReadsCardSaid : Prop := Claim7.holds Tryz.pinned (.plain (OpenSpec.ofChange bankReadsSpec)) bankReadsCard

/-- THE TIED CARD OF 'quashlaw17.BankDoes'. -/
def bankDoesCard : Claim7 := { stood := { row := bankDoesRow, standIns := [], harness := (true, "b15791d3d37cb4baa2e854f5e9f6466cc2826482340098427261e637413870df"), looks := true }, kinds := [], alts := [], laidByText := true, laidKinds := [.data, .data, .data, .data, .sentinel, .sentinel, .pinned], laidTests := true, laidLooks := .later }
def BankDoesCardSaid : Prop := Claim7.holds Tryz.pinned (.plain (OpenSpec.ofChange bankDoesSpec)) bankDoesCard

/-- THE TIED CARD OF 'quashlaw17.BankCodes'. -/
def bankCodesCard : Claim7 := { stood := { row := bankCodesRow, standIns := [], harness := (true, "b15791d3d37cb4baa2e854f5e9f6466cc2826482340098427261e637413870df"), looks := true }, kinds := [], alts := [], laidByText := true, laidKinds := [.data, .data, .data, .data, .sentinel, .sentinel, .pinned], laidTests := true, laidLooks := .later }
def BankCodesCardSaid : Prop := Claim7.holds Tryz.pinned (.plain (OpenSpec.ofChange bankCodesSpec)) bankCodesCard

/-- THE TIED CARD OF 'quashlaw17.BankRuns'. -/
def bankRunsCard : Claim7 := { stood := { row := bankRunsRow, standIns := [], harness := (true, "b15791d3d37cb4baa2e854f5e9f6466cc2826482340098427261e637413870df"), looks := true }, kinds := [], alts := [], laidByText := true, laidKinds := [.data, .data, .data, .data, .sentinel, .sentinel, .pinned], laidTests := true, laidLooks := .later }
def BankRunsCardSaid : Prop := Claim7.holds Tryz.pinned (.plain (OpenSpec.ofChange bankRunsSpec)) bankRunsCard

/-- THE SECOND FORM's CARD OF 'quashlaw17.BankNames'. -/
def bankNamesUptoCard : Claim7 := { stood := { row := bankNamesUptoRow, standIns := [], harness := (true, "b15791d3d37cb4baa2e854f5e9f6466cc2826482340098427261e637413870df"), looks := true }, kinds := [], alts := [], laidByText := true, laidKinds := [.data, .data, .data, .data, .sentinel, .sentinel, .pinned], laidTests := true, laidLooks := .later }
def BankNamesUptoCardSaid : Prop := Claim7.holds Tryz.pinned (.plain (OpenSpec.upto bankNamesSpec)) bankNamesUptoCard

/-- THE SECOND FORM's CARD OF 'quashlaw17.BankRooms'. -/
def bankRoomsUptoCard : Claim7 := { stood := { row := bankRoomsUptoRow, standIns := [], harness := (true, "b15791d3d37cb4baa2e854f5e9f6466cc2826482340098427261e637413870df"), looks := true }, kinds := [], alts := [], laidByText := true, laidKinds := [.data, .data, .data, .data, .sentinel, .sentinel, .pinned], laidTests := true, laidLooks := .later }
def BankRoomsUptoCardSaid : Prop := Claim7.holds Tryz.pinned (.plain (OpenSpec.upto bankRoomsSpec)) bankRoomsUptoCard

/-- THE SECOND FORM's CARD OF 'quashlaw17.BankReads'. -/
def bankReadsUptoCard : Claim7 := { stood := { row := bankReadsUptoRow, standIns := [], harness := (true, "b15791d3d37cb4baa2e854f5e9f6466cc2826482340098427261e637413870df"), looks := true }, kinds := [], alts := [], laidByText := true, laidKinds := [.data, .data, .data, .data, .sentinel, .sentinel, .pinned], laidTests := true, laidLooks := .later }
def BankReadsUptoCardSaid : Prop := Claim7.holds Tryz.pinned (.plain (OpenSpec.upto bankReadsSpec)) bankReadsUptoCard

/-- THE SECOND FORM's CARD OF 'quashlaw17.BankDoes'. -/
def bankDoesUptoCard : Claim7 := { stood := { row := bankDoesUptoRow, standIns := [], harness := (true, "b15791d3d37cb4baa2e854f5e9f6466cc2826482340098427261e637413870df"), looks := true }, kinds := [], alts := [], laidByText := true, laidKinds := [.data, .data, .data, .data, .sentinel, .sentinel, .pinned], laidTests := true, laidLooks := .later }
def BankDoesUptoCardSaid : Prop := Claim7.holds Tryz.pinned (.plain (OpenSpec.upto bankDoesSpec)) bankDoesUptoCard

/-- THE SECOND FORM's CARD OF 'quashlaw17.BankCodes'. -/
def bankCodesUptoCard : Claim7 := { stood := { row := bankCodesUptoRow, standIns := [], harness := (true, "b15791d3d37cb4baa2e854f5e9f6466cc2826482340098427261e637413870df"), looks := true }, kinds := [], alts := [], laidByText := true, laidKinds := [.data, .data, .data, .data, .sentinel, .sentinel, .pinned], laidTests := true, laidLooks := .later }
def BankCodesUptoCardSaid : Prop := Claim7.holds Tryz.pinned (.plain (OpenSpec.upto bankCodesSpec)) bankCodesUptoCard

/-- THE SECOND FORM's CARD OF 'quashlaw17.BankRuns'. -/
def bankRunsUptoCard : Claim7 := { stood := { row := bankRunsUptoRow, standIns := [], harness := (true, "b15791d3d37cb4baa2e854f5e9f6466cc2826482340098427261e637413870df"), looks := true }, kinds := [], alts := [], laidByText := true, laidKinds := [.data, .data, .data, .data, .sentinel, .sentinel, .pinned], laidTests := true, laidLooks := .later }
def BankRunsUptoCardSaid : Prop := Claim7.holds Tryz.pinned (.plain (OpenSpec.upto bankRunsSpec)) bankRunsUptoCard
end Rows
end Go.Proofs.YtmoekoilcdkhfaaGreatDoor
