/-
  DERIVED. GIVEN WITH THE SEED: THE CARDS: each row of YtahokdgodhhchabGreatDoorRows.lean that lists a variable, with what it lists TIED to the program's text (the seventh form; the later family's looks); each row that meets fmt, with fmt's text TOLD by the authors' own Lean function (tested against real Go, not proved from fmt's source: count such statements apart). THE CARD IS WHAT COUNTS. Prove the row's statement (the work); the ties are given (YtahokdgodhhchabGreatDoorTie.lean); close each card by the builder's one call (the guide's Derived/Test/ToyasCard.lean, 'card_holds'). Laid BY PROGRAM, IN A SANDBOX (cutbox-door.mjs). By AI agents, Wed Nov 11 2026. No macro, syntax, notation, axiom, sorry.
-/
import Derived.Test.YtahokdgodhhchabGreatDoorRows
import GoSem.ClaimSeven
namespace Go.Proofs.YtahokdgodhhchabGreatDoor
namespace Rows

/-- THE TIED CARD OF 'quashlaw20.DequeLives'. -/
def dequeLivesCard : Claim7 := { stood := { row := dequeLivesRow, standIns := [], harness := (true, "29269bc7ba8c7071e14aeac7ede9f87c7fe73c8d572239ff1356ffe7047691a4"), looks := true }, kinds := [], alts := [], laidByText := true, laidKinds := [.data, .data, .data, .data, .sentinel, .sentinel, .pinned], laidTests := true, laidLooks := .later }
def DequeLivesCardSaid : Prop := Claim7.holds Tryz.pinned (.plain (OpenSpec.ofChange dequeLivesSpec)) dequeLivesCard

/-- THE TIED CARD OF 'quashlaw20.DequeKeeps'. -/
def dequeKeepsCard : Claim7 := { stood := { row := dequeKeepsRow, standIns := [], harness := (true, "29269bc7ba8c7071e14aeac7ede9f87c7fe73c8d572239ff1356ffe7047691a4"), looks := true }, kinds := [], alts := [], laidByText := true, laidKinds := [.data, .data, .data, .data, .sentinel, .sentinel, .pinned], laidTests := true, laidLooks := .later }
def DequeKeepsCardSaid : Prop := Claim7.holds Tryz.pinned (.plain (OpenSpec.ofChange dequeKeepsSpec)) dequeKeepsCard

/-- THE SECOND FORM's CARD OF 'quashlaw20.DequeLives'. -/
def dequeLivesUptoCard : Claim7 := { stood := { row := dequeLivesUptoRow, standIns := [], harness := (true, "29269bc7ba8c7071e14aeac7ede9f87c7fe73c8d572239ff1356ffe7047691a4"), looks := true }, kinds := [], alts := [], laidByText := true, laidKinds := [.data, .data, .data, .data, .sentinel, .sentinel, .pinned], laidTests := true, laidLooks := .later }
def DequeLivesUptoCardSaid : Prop := Claim7.holds Tryz.pinned (.plain (OpenSpec.upto dequeLivesSpec)) dequeLivesUptoCard

/-- THE SECOND FORM's CARD OF 'quashlaw20.DequeKeeps'. -/
def dequeKeepsUptoCard : Claim7 := { stood := { row := dequeKeepsUptoRow, standIns := [], harness := (true, "29269bc7ba8c7071e14aeac7ede9f87c7fe73c8d572239ff1356ffe7047691a4"), looks := true }, kinds := [], alts := [], laidByText := true, laidKinds := [.data, .data, .data, .data, .sentinel, .sentinel, .pinned], laidTests := true, laidLooks := .later }
def DequeKeepsUptoCardSaid : Prop := Claim7.holds Tryz.pinned (.plain (OpenSpec.upto dequeKeepsSpec)) dequeKeepsUptoCard
end Rows
end Go.Proofs.YtahokdgodhhchabGreatDoor
