/-
  DERIVED. GIVEN WITH THE SEED: THE CARDS: each row of YtbpilhjomfkpaaaGreatDoorRows.lean that lists a variable, with what it lists TIED to the program's text (the seventh form; the later family's looks); each row that meets fmt, with fmt's text TOLD by the authors' own Lean function (tested against real Go, not proved from fmt's source: count such statements apart). THE CARD IS WHAT COUNTS. Prove the row's statement (the work); the ties are given (YtbpilhjomfkpaaaGreatDoorTie.lean); close each card by the builder's one call (the guide's Derived/Test/ToyasCard.lean, 'card_holds'). Laid BY PROGRAM, IN A SANDBOX (cutbox-door.mjs). By AI agents, Wed Nov 11 2026. No macro, syntax, notation, axiom, sorry.
-/
import Derived.Test.YtbpilhjomfkpaaaGreatDoorRows
import GoSem.ClaimSeven
namespace Go.Proofs.YtbpilhjomfkpaaaGreatDoor
namespace Rows

/-- THE TIED CARD OF 'quashlaw19.DictNames'. -/
def dictNamesCard : Claim7 := { stood := { row := dictNamesRow, standIns := [], harness := (true, "24d5c841d31f7ac5856ccb91c8b5448e05be8e9388e8d481015a71d8dba70d63"), looks := true }, kinds := [], alts := [], laidByText := true, laidKinds := [.data, .data, .data, .data, .sentinel, .sentinel, .pinned], laidTests := true, laidLooks := .later }
def DictNamesCardSaid : Prop := Claim7.holds Tryz.pinned (.plain (OpenSpec.ofChange dictNamesSpec)) dictNamesCard

/-- THE TIED CARD OF 'quashlaw19.DictRooms'. -/
def dictRoomsCard : Claim7 := { stood := { row := dictRoomsRow, standIns := [], harness := (true, "24d5c841d31f7ac5856ccb91c8b5448e05be8e9388e8d481015a71d8dba70d63"), looks := true }, kinds := [], alts := [], laidByText := true, laidKinds := [.data, .data, .data, .data, .sentinel, .sentinel, .pinned], laidTests := true, laidLooks := .later }
def DictRoomsCardSaid : Prop := Claim7.holds Tryz.pinned (.plain (OpenSpec.ofChange dictRoomsSpec)) dictRoomsCard

/-- THE TIED CARD OF 'quashlaw19.DictReads'. -/
def dictReadsCard : Claim7 := { stood := { row := dictReadsRow, standIns := [], harness := (true, "24d5c841d31f7ac5856ccb91c8b5448e05be8e9388e8d481015a71d8dba70d63"), looks := true }, kinds := [], alts := [], laidByText := true, laidKinds := [.data, .data, .data, .data, .sentinel, .sentinel, .pinned], laidTests := true, laidLooks := .later }
def DictReadsCardSaid : Prop := Claim7.holds Tryz.pinned (.plain (OpenSpec.ofChange dictReadsSpec)) dictReadsCard

/-- THE TIED CARD OF 'quashlaw19.DictDoes'. -/
def dictDoesCard : Claim7 := { stood := { row := dictDoesRow, standIns := [], harness := (true, "24d5c841d31f7ac5856ccb91c8b5448e05be8e9388e8d481015a71d8dba70d63"), looks := true }, kinds := [], alts := [], laidByText := true, laidKinds := [.data, .data, .data, .data, .sentinel, .sentinel, .pinned], laidTests := true, laidLooks := .later }
def DictDoesCardSaid : Prop := Claim7.holds Tryz.pinned (.plain (OpenSpec.ofChange dictDoesSpec)) dictDoesCard

/-- THE TIED CARD OF 'quashlaw19.DictCodes'. -/
def dictCodesCard : Claim7 := { stood := { row := dictCodesRow, standIns := [], harness := (true, "24d5c841d31f7ac5856ccb91c8b5448e05be8e9388e8d481015a71d8dba70d63"), looks := true }, kinds := [], alts := [], laidByText := true, laidKinds := [.data, .data, .data, .data, .sentinel, .sentinel, .pinned], laidTests := true, laidLooks := .later }
def DictCodesCardSaid : Prop := Claim7.holds Tryz.pinned (.plain (OpenSpec.ofChange dictCodesSpec)) dictCodesCard

/-- THE TIED CARD OF 'quashlaw19.DictRuns'. -/
def dictRunsCard : Claim7 := { stood := { row := dictRunsRow, standIns := [], harness := (true, "24d5c841d31f7ac5856ccb91c8b5448e05be8e9388e8d481015a71d8dba70d63"), looks := true }, kinds := [], alts := [], laidByText := true, laidKinds := [.data, .data, .data, .data, .sentinel, .sentinel, .pinned], laidTests := true, laidLooks := .later }
def DictRunsCardSaid : Prop := Claim7.holds Tryz.pinned (.plain (OpenSpec.ofChange dictRunsSpec)) dictRunsCard

/-- THE SECOND FORM's CARD OF 'quashlaw19.DictNames'. -/
def dictNamesUptoCard : Claim7 := { stood := { row := dictNamesUptoRow, standIns := [], harness := (true, "24d5c841d31f7ac5856ccb91c8b5448e05be8e9388e8d481015a71d8dba70d63"), looks := true }, kinds := [], alts := [], laidByText := true, laidKinds := [.data, .data, .data, .data, .sentinel, .sentinel, .pinned], laidTests := true, laidLooks := .later }
def DictNamesUptoCardSaid : Prop := Claim7.holds Tryz.pinned (.plain (OpenSpec.upto dictNamesSpec)) dictNamesUptoCard

/-- THE SECOND FORM's CARD OF 'quashlaw19.DictRooms'. -/
def dictRoomsUptoCard : Claim7 := { stood := { row := dictRoomsUptoRow, standIns := [], harness := (true, "24d5c841d31f7ac5856ccb91c8b5448e05be8e9388e8d481015a71d8dba70d63"), looks := true }, kinds := [], alts := [], laidByText := true, laidKinds := [.data, .data, .data, .data, .sentinel, .sentinel, .pinned], laidTests := true, laidLooks := .later }
def DictRoomsUptoCardSaid : Prop := Claim7.holds Tryz.pinned (.plain (OpenSpec.upto dictRoomsSpec)) dictRoomsUptoCard

/-- THE SECOND FORM's CARD OF 'quashlaw19.DictReads'. -/
def dictReadsUptoCard : Claim7 := { stood := { row := dictReadsUptoRow, standIns := [], harness := (true, "24d5c841d31f7ac5856ccb91c8b5448e05be8e9388e8d481015a71d8dba70d63"), looks := true }, kinds := [], alts := [], laidByText := true, laidKinds := [.data, .data, .data, .data, .sentinel, .sentinel, .pinned], laidTests := true, laidLooks := .later }
def DictReadsUptoCardSaid : Prop := Claim7.holds Tryz.pinned (.plain (OpenSpec.upto dictReadsSpec)) dictReadsUptoCard

/-- THE SECOND FORM's CARD OF 'quashlaw19.DictDoes'. -/
def dictDoesUptoCard : Claim7 := { stood := { row := dictDoesUptoRow, standIns := [], harness := (true, "24d5c841d31f7ac5856ccb91c8b5448e05be8e9388e8d481015a71d8dba70d63"), looks := true }, kinds := [], alts := [], laidByText := true, laidKinds := [.data, .data, .data, .data, .sentinel, .sentinel, .pinned], laidTests := true, laidLooks := .later }
def DictDoesUptoCardSaid : Prop := Claim7.holds Tryz.pinned (.plain (OpenSpec.upto dictDoesSpec)) dictDoesUptoCard

/-- THE SECOND FORM's CARD OF 'quashlaw19.DictCodes'. -/
def dictCodesUptoCard : Claim7 := { stood := { row := dictCodesUptoRow, standIns := [], harness := (true, "24d5c841d31f7ac5856ccb91c8b5448e05be8e9388e8d481015a71d8dba70d63"), looks := true }, kinds := [], alts := [], laidByText := true, laidKinds := [.data, .data, .data, .data, .sentinel, .sentinel, .pinned], laidTests := true, laidLooks := .later }
def DictCodesUptoCardSaid : Prop := Claim7.holds Tryz.pinned (.plain (OpenSpec.upto dictCodesSpec)) dictCodesUptoCard

/-- THE SECOND FORM's CARD OF 'quashlaw19.DictRuns'. -/
def dictRunsUptoCard : Claim7 := { stood := { row := dictRunsUptoRow, standIns := [], harness := (true, "24d5c841d31f7ac5856ccb91c8b5448e05be8e9388e8d481015a71d8dba70d63"), looks := true }, kinds := [], alts := [], laidByText := true, laidKinds := [.data, .data, .data, .data, .sentinel, .sentinel, .pinned], laidTests := true, laidLooks := .later }
def DictRunsUptoCardSaid : Prop := Claim7.holds Tryz.pinned (.plain (OpenSpec.upto dictRunsSpec)) dictRunsUptoCard
end Rows
end Go.Proofs.YtbpilhjomfkpaaaGreatDoor
