/-
  DERIVED. GIVEN WITH THE SEED: THE CARDS: each row of YtbpilhjomfkpaabGreatDoorRows.lean that lists a variable, with what it lists TIED to the program's text (the seventh form; the later family's looks); each row that meets fmt, with fmt's text TOLD by the authors' own Lean function (tested against real Go, not proved from fmt's source: count such statements apart). THE CARD IS WHAT COUNTS. Prove the row's statement (the work); the ties are given (YtbpilhjomfkpaabGreatDoorTie.lean); close each card by the builder's one call (the guide's Derived/Test/ToyasCard.lean, 'card_holds'). Laid BY PROGRAM, IN A SANDBOX (cutbox-door.mjs). By AI agents, Wed Nov 11 2026. No macro, syntax, notation, axiom, sorry.
-/
import Derived.Test.YtbpilhjomfkpaabGreatDoorRows
import GoSem.ClaimSeven
namespace Go.Proofs.YtbpilhjomfkpaabGreatDoor
namespace Rows

/-- THE TIED CARD OF 'quashlaw19.DictLives'. -/
def dictLivesCard : Claim7 := { stood := { row := dictLivesRow, standIns := [], harness := (true, "972e60e552a8a64f44460b9dd83f51020804211f45fb8a226dde42abab53698e"), looks := true }, kinds := [], alts := [], laidByText := true, laidKinds := [.data, .data, .data, .data, .sentinel, .sentinel, .pinned], laidTests := true, laidLooks := .later }
def DictLivesCardSaid : Prop := Claim7.holds Tryz.pinned (.plain (OpenSpec.ofChange dictLivesSpec)) dictLivesCard

/-- THE TIED CARD OF 'quashlaw19.DictKeeps'. -/
def dictKeepsCard : Claim7 := { stood := { row := dictKeepsRow, standIns := [], harness := (true, "972e60e552a8a64f44460b9dd83f51020804211f45fb8a226dde42abab53698e"), looks := true }, kinds := [], alts := [], laidByText := true, laidKinds := [.data, .data, .data, .data, .sentinel, .sentinel, .pinned], laidTests := true, laidLooks := .later }
def DictKeepsCardSaid : Prop := Claim7.holds Tryz.pinned (.plain (OpenSpec.ofChange dictKeepsSpec)) dictKeepsCard

/-- THE SECOND FORM's CARD OF 'quashlaw19.DictLives'. -/
def dictLivesUptoCard : Claim7 := { stood := { row := dictLivesUptoRow, standIns := [], harness := (true, "972e60e552a8a64f44460b9dd83f51020804211f45fb8a226dde42abab53698e"), looks := true }, kinds := [], alts := [], laidByText := true, laidKinds := [.data, .data, .data, .data, .sentinel, .sentinel, .pinned], laidTests := true, laidLooks := .later }
def DictLivesUptoCardSaid : Prop := Claim7.holds Tryz.pinned (.plain (OpenSpec.upto dictLivesSpec)) dictLivesUptoCard

/-- THE SECOND FORM's CARD OF 'quashlaw19.DictKeeps'. -/
def dictKeepsUptoCard : Claim7 := { stood := { row := dictKeepsUptoRow, standIns := [], harness := (true, "972e60e552a8a64f44460b9dd83f51020804211f45fb8a226dde42abab53698e"), looks := true }, kinds := [], alts := [], laidByText := true, laidKinds := [.data, .data, .data, .data, .sentinel, .sentinel, .pinned], laidTests := true, laidLooks := .later }
def DictKeepsUptoCardSaid : Prop := Claim7.holds Tryz.pinned (.plain (OpenSpec.upto dictKeepsSpec)) dictKeepsUptoCard
end Rows
end Go.Proofs.YtbpilhjomfkpaabGreatDoor
