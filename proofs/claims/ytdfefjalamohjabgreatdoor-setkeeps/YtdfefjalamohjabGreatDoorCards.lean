/-
  DERIVED. GIVEN WITH THE SEED: THE CARDS: each row of YtdfefjalamohjabGreatDoorRows.lean that lists a variable, with what it lists TIED to the program's text (the seventh form; the later family's looks); each row that meets fmt, with fmt's text TOLD by the authors' own Lean function (tested against real Go, not proved from fmt's source: count such statements apart). THE CARD IS WHAT COUNTS. Prove the row's statement (the work); the ties are given (YtdfefjalamohjabGreatDoorTie.lean); close each card by the builder's one call (the guide's Derived/Test/ToyasCard.lean, 'card_holds'). Laid BY PROGRAM, IN A SANDBOX (cutbox-door.mjs). By AI agents, Wed Nov 11 2026. No macro, syntax, notation, axiom, sorry.
-/
import Derived.Test.YtdfefjalamohjabGreatDoorRows
import GoSem.ClaimSeven
namespace Go.Proofs.YtdfefjalamohjabGreatDoor
namespace Rows

/-- THE TIED CARD OF 'quashlaw18.SetLives'. -/
def setLivesCard : Claim7 := { stood := { row := setLivesRow, standIns := [], harness := (true, "5f31e4a494c790544a1aea643bdd57d00010ebc29fb93109cf3907560ca61113"), looks := true }, kinds := [], alts := [], laidByText := true, laidKinds := [.data, .data, .data, .data, .sentinel, .sentinel, .pinned], laidTests := true, laidLooks := .later }
def SetLivesCardSaid : Prop := Claim7.holds Tryz.pinned (.plain (OpenSpec.ofChange setLivesSpec)) setLivesCard

/-- THE TIED CARD OF 'quashlaw18.SetKeeps'. -/
def setKeepsCard : Claim7 := { stood := { row := setKeepsRow, standIns := [], harness := (true, "5f31e4a494c790544a1aea643bdd57d00010ebc29fb93109cf3907560ca61113"), looks := true }, kinds := [], alts := [], laidByText := true, laidKinds := [.data, .data, .data, .data, .sentinel, .sentinel, .pinned], laidTests := true, laidLooks := .later }
def SetKeepsCardSaid : Prop := Claim7.holds Tryz.pinned (.plain (OpenSpec.ofChange setKeepsSpec)) setKeepsCard

/-- THE SECOND FORM's CARD OF 'quashlaw18.SetLives'. -/
def setLivesUptoCard : Claim7 := { stood := { row := setLivesUptoRow, standIns := [], harness := (true, "5f31e4a494c790544a1aea643bdd57d00010ebc29fb93109cf3907560ca61113"), looks := true }, kinds := [], alts := [], laidByText := true, laidKinds := [.data, .data, .data, .data, .sentinel, .sentinel, .pinned], laidTests := true, laidLooks := .later }
def SetLivesUptoCardSaid : Prop := Claim7.holds Tryz.pinned (.plain (OpenSpec.upto setLivesSpec)) setLivesUptoCard

/-- THE SECOND FORM's CARD OF 'quashlaw18.SetKeeps'. -/
def setKeepsUptoCard : Claim7 := { stood := { row := setKeepsUptoRow, standIns := [], harness := (true, "5f31e4a494c790544a1aea643bdd57d00010ebc29fb93109cf3907560ca61113"), looks := true }, kinds := [], alts := [], laidByText := true, laidKinds := [.data, .data, .data, .data, .sentinel, .sentinel, .pinned], laidTests := true, laidLooks := .later }
def SetKeepsUptoCardSaid : Prop := Claim7.holds Tryz.pinned (.plain (OpenSpec.upto setKeepsSpec)) setKeepsUptoCard
end Rows
end Go.Proofs.YtdfefjalamohjabGreatDoor
