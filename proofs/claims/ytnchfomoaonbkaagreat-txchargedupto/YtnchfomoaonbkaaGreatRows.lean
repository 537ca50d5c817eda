/-
  No cell of these rows narrows 'for every input' (looked for: loops, veiled, ifaces, maps, wideKeys, modest, calm, conditions, laid).
  DERIVED. THE GIVEN ROWS OF THIS SEAT. 6 by the template 'for every input the law returns true; each argument reads behind the call as it read before'; 0 by the template 'total and deterministic' (their statements: YtnchfomoaonbkaaGreatTotals.lean).
  GIVEN WITH THE SEED: the statements are not yours to turn. If you find one false, say at which input.
  Laid BY PROGRAM, IN A SANDBOX (cutbox-rows.mjs): the forced cells as the released guide's own fill.sh prints them over the translation ebca4e8f0edcb406… (all of the seat's roots in one cut). By AI agents, Wed Nov 11 2026. No macro, syntax, notation, axiom, sorry.
-/
import Derived.Test.YtnchfomoaonbkaaGreatChecked
import GoSem.Claim
import GoSem.ClaimJoined
import GoSem.ClaimMapViews
import Derived.JoinedTies
import Derived.KernelRfl
namespace Go.Proofs.YtnchfomoaonbkaaGreat
/- THE CELL 'sum', in the pinned program and in every row, IS THE sha256 OF THE DUMP (.gsa) THAT YtnchfomoaonbkaaGreatProg.lean LOADS. Nothing in Lean hashes anything: it is a label: what it is worth is what the hold of that sum in a sandbox is worth. -/
noncomputable def Tryz.pinned : Pinned := { name := "ytnchfomoaonbkaagreat", sum := "ebca4e8f0edcb406253ba46abfc825a98a48fd0e14872f5a4ca023227c5267c0", checked := Tryz.checked }
namespace Rows
def none {H : Type} : Left H := { results := [], args := [] }

/-- 'quashlaw14.TxPlays': WHATEVER THE INPUT: true; the input reads as it did. -/
def txPlaysSpec : ChangeSpec := { name := "txPlays", fn := fun _ => fun
  | [d1, d2, d3] => { results := [.lit (.bool true)], args := [d1, d2, d3] }
  | _ => none }
def txPlaysRow : OpenClaim := { program := "ytnchfomoaonbkaagreat", sum := "ebca4e8f0edcb406253ba46abfc825a98a48fd0e14872f5a4ca023227c5267c0", func := "quash/quashlaw14.TxPlays", spec := "txPlays", unfollowed := true, recurses := true, apart := false }
def TxPlaysSaid : Prop := txPlaysRow.holds Tryz.pinned (OpenSpec.ofChange txPlaysSpec)

/-- ITS FALSE NEIGHBOUR: 'it returns false'. Refute it at one input. -/
def txPlaysWrong : ChangeSpec := { name := "txPlays", fn := fun _ => fun
  | [d1, d2, d3] => { results := [.lit (.bool false)], args := [d1, d2, d3] }
  | _ => none }
def TxPlaysWrongFalsely : Prop := txPlaysRow.holds Tryz.pinned (OpenSpec.ofChange txPlaysWrong)

/-- 'quashlaw14.TxHolds': WHATEVER THE INPUT: true; the input reads as it did. -/
def txHoldsSpec : ChangeSpec := { name := "txHolds", fn := fun _ => fun
  | [d1, d2, d3] => { results := [.lit (.bool true)], args := [d1, d2, d3] }
  | _ => none }
def txHoldsRow : OpenClaim := { program := "ytnchfomoaonbkaagreat", sum := "ebca4e8f0edcb406253ba46abfc825a98a48fd0e14872f5a4ca023227c5267c0", func := "quash/quashlaw14.TxHolds", spec := "txHolds", unfollowed := true, recurses := true, apart := false }
def TxHoldsSaid : Prop := txHoldsRow.holds Tryz.pinned (OpenSpec.ofChange txHoldsSpec)

/-- ITS FALSE NEIGHBOUR: 'it returns false'. Refute it at one input. -/
def txHoldsWrong : ChangeSpec := { name := "txHolds", fn := fun _ => fun
  | [d1, d2, d3] => { results := [.lit (.bool false)], args := [d1, d2, d3] }
  | _ => none }
def TxHoldsWrongFalsely : Prop := txHoldsRow.holds Tryz.pinned (OpenSpec.ofChange txHoldsWrong)

/-- 'quashlaw14.TxWaits': WHATEVER THE INPUT: true; the input reads as it did. -/
def txWaitsSpec : ChangeSpec := { name := "txWaits", fn := fun _ => fun
  | [d1, d2, d3] => { results := [.lit (.bool true)], args := [d1, d2, d3] }
  | _ => none }
def txWaitsRow : OpenClaim := { program := "ytnchfomoaonbkaagreat", sum := "ebca4e8f0edcb406253ba46abfc825a98a48fd0e14872f5a4ca023227c5267c0", func := "quash/quashlaw14.TxWaits", spec := "txWaits", unfollowed := true, recurses := true, apart := false }
def TxWaitsSaid : Prop := txWaitsRow.holds Tryz.pinned (OpenSpec.ofChange txWaitsSpec)

/-- ITS FALSE NEIGHBOUR: 'it returns false'. Refute it at one input. -/
def txWaitsWrong : ChangeSpec := { name := "txWaits", fn := fun _ => fun
  | [d1, d2, d3] => { results := [.lit (.bool false)], args := [d1, d2, d3] }
  | _ => none }
def TxWaitsWrongFalsely : Prop := txWaitsRow.holds Tryz.pinned (OpenSpec.ofChange txWaitsWrong)

/-- 'quashlaw14.TxSerial': WHATEVER THE INPUT: true; the input reads as it did. -/
def txSerialSpec : ChangeSpec := { name := "txSerial", fn := fun _ => fun
  | [d1, d2, d3] => { results := [.lit (.bool true)], args := [d1, d2, d3] }
  | _ => none }
def txSerialRow : OpenClaim := { program := "ytnchfomoaonbkaagreat", sum := "ebca4e8f0edcb406253ba46abfc825a98a48fd0e14872f5a4ca023227c5267c0", func := "quash/quashlaw14.TxSerial", spec := "txSerial", unfollowed := true, recurses := true, apart := false }
def TxSerialSaid : Prop := txSerialRow.holds Tryz.pinned (OpenSpec.ofChange txSerialSpec)

/-- ITS FALSE NEIGHBOUR: 'it returns false'. Refute it at one input. -/
def txSerialWrong : ChangeSpec := { name := "txSerial", fn := fun _ => fun
  | [d1, d2, d3] => { results := [.lit (.bool false)], args := [d1, d2, d3] }
  | _ => none }
def TxSerialWrongFalsely : Prop := txSerialRow.holds Tryz.pinned (OpenSpec.ofChange txSerialWrong)

/-- 'quashlaw14.TxCharged': WHATEVER THE INPUT: true; the input reads as it did. -/
def txChargedSpec : ChangeSpec := { name := "txCharged", fn := fun _ => fun
  | [d1, d2, d3] => { results := [.lit (.bool true)], args := [d1, d2, d3] }
  | _ => none }
def txChargedRow : OpenClaim := { program := "ytnchfomoaonbkaagreat", sum := "ebca4e8f0edcb406253ba46abfc825a98a48fd0e14872f5a4ca023227c5267c0", func := "quash/quashlaw14.TxCharged", spec := "txCharged", unfollowed := true, recurses := true, apart := false }
def TxChargedSaid : Prop := txChargedRow.holds Tryz.pinned (OpenSpec.ofChange txChargedSpec)

/-- ITS FALSE NEIGHBOUR: 'it returns false'. Refute it at one input. -/
def txChargedWrong : ChangeSpec := { name := "txCharged", fn := fun _ => fun
  | [d1, d2, d3] => { results := [.lit (.bool false)], args := [d1, d2, d3] }
  | _ => none }
def TxChargedWrongFalsely : Prop := txChargedRow.holds Tryz.pinned (OpenSpec.ofChange txChargedWrong)

/-- 'quashlaw14.TxBounds': WHATEVER THE INPUT: true; the input reads as it did. -/
def txBoundsSpec : ChangeSpec := { name := "txBounds", fn := fun _ => fun
  | [d1, d2, d3] => { results := [.lit (.bool true)], args := [d1, d2, d3] }
  | _ => none }
def txBoundsRow : OpenClaim := { program := "ytnchfomoaonbkaagreat", sum := "ebca4e8f0edcb406253ba46abfc825a98a48fd0e14872f5a4ca023227c5267c0", func := "quash/quashlaw14.TxBounds", spec := "txBounds", unfollowed := true, recurses := true, apart := false }
def TxBoundsSaid : Prop := txBoundsRow.holds Tryz.pinned (OpenSpec.ofChange txBoundsSpec)

/-- ITS FALSE NEIGHBOUR: 'it returns false'. Refute it at one input. -/
def txBoundsWrong : ChangeSpec := { name := "txBounds", fn := fun _ => fun
  | [d1, d2, d3] => { results := [.lit (.bool false)], args := [d1, d2, d3] }
  | _ => none }
def TxBoundsWrongFalsely : Prop := txBoundsRow.holds Tryz.pinned (OpenSpec.ofChange txBoundsWrong)

/- THE SECOND FORM. 'bulk': how many values and letters a reading holds, each counted each time it is reached (what is shared counts as often as it is met; a slice's spare places count too). A statement '..UptoSaid' is the law's where the arguments, and the package variables that the reading takes, are together of bulk at most 1048576: NARROWER than '..Said'. Prove '..Said' where nothing that the law and all that it calls make is longer than what came in: it says more and counts as full. Else prove '..UptoSaid'. A law counts once. -/
mutual
def uptoBulk {H : Type} : DataW H → Nat
  | .lit (.string bytes) => bytes.length + 1
  | .lit _ => 1
  | .nil => 1
  | .ptr d => uptoBulk d + 1
  | .slice elems spare => uptoBulkAll elems + uptoBulkAll spare + 1
  | .agg parts => uptoBulkAll parts + 1
  | .iface _ d => uptoBulk d + 1
  | .map entries => uptoBulkEntries entries + 1
  | .held _ => 1
def uptoBulkAll {H : Type} : List (DataW H) → Nat
  | [] => 0
  | d :: r => uptoBulk d + uptoBulkAll r
def uptoBulkEntries {H : Type} : List (Lit × DataW H) → Nat
  | [] => 0
  | x :: r => uptoBulkEntry x + uptoBulkEntries r
def uptoBulkEntry {H : Type} : Lit × DataW H → Nat
  | (.string bytes, d) => bytes.length + uptoBulk d + 1
  | (_, d) => uptoBulk d + 1
 end
def uptoSmall : (H : Type) → List (DataW H) → Bool := fun _ ds => decide (uptoBulkAll ds ≤ 1048576)
def OpenSpec.upto (s : _root_.Go.ChangeSpec) : _root_.Go.OpenSpec := { _root_.Go.OpenSpec.ofChange s with cond := some uptoSmall }

/-- 'quashlaw14.TxPlays', WHERE WHAT IT READS IS OF BULK AT MOST 1048576: true; the input reads as it did. -/
def txPlaysUptoRow : OpenClaim := { program := "ytnchfomoaonbkaagreat", sum := "ebca4e8f0edcb406253ba46abfc825a98a48fd0e14872f5a4ca023227c5267c0", func := "quash/quashlaw14.TxPlays", spec := "txPlays", unfollowed := true, recurses := true, apart := false, narrowed := true }
def TxPlaysUptoSaid : Prop := txPlaysUptoRow.holds Tryz.pinned (OpenSpec.upto txPlaysSpec)

/-- 'quashlaw14.TxHolds', WHERE WHAT IT READS IS OF BULK AT MOST 1048576: true; the input reads as it did. -/
def txHoldsUptoRow : OpenClaim := { program := "ytnchfomoaonbkaagreat", sum := "ebca4e8f0edcb406253ba46abfc825a98a48fd0e14872f5a4ca023227c5267c0", func := "quash/quashlaw14.TxHolds", spec := "txHolds", unfollowed := true, recurses := true, apart := false, narrowed := true }
def TxHoldsUptoSaid : Prop := txHoldsUptoRow.holds Tryz.pinned (OpenSpec.upto txHoldsSpec)

/-- 'quashlaw14.TxWaits', WHERE WHAT IT READS IS OF BULK AT MOST 1048576: true; the input reads as it did. -/
def txWaitsUptoRow : OpenClaim := { program := "ytnchfomoaonbkaagreat", sum := "ebca4e8f0edcb406253ba46abfc825a98a48fd0e14872f5a4ca023227c5267c0", func := "quash/quashlaw14.TxWaits", spec := "txWaits", unfollowed := true, recurses := true, apart := false, narrowed := true }
def TxWaitsUptoSaid : Prop := txWaitsUptoRow.holds Tryz.pinned (OpenSpec.upto txWaitsSpec)

/-- 'quashlaw14.TxSerial', WHERE WHAT IT READS IS OF BULK AT MOST 1048576: true; the input reads as it did. -/
def txSerialUptoRow : OpenClaim := { program := "ytnchfomoaonbkaagreat", sum := "ebca4e8f0edcb406253ba46abfc825a98a48fd0e14872f5a4ca023227c5267c0", func := "quash/quashlaw14.TxSerial", spec := "txSerial", unfollowed := true, recurses := true, apart := false, narrowed := true }
def TxSerialUptoSaid : Prop := txSerialUptoRow.holds Tryz.pinned (OpenSpec.upto txSerialSpec)

/-- 'quashlaw14.TxCharged', WHERE WHAT IT READS IS OF BULK AT MOST 1048576: true; the input reads as it did. -/
def txChargedUptoRow : OpenClaim := { program := "ytnchfomoaonbkaagreat", sum := "ebca4e8f0edcb406253ba46abfc825a98a48fd0e14872f5a4ca023227c5267c0", func := "quash/quashlaw14.TxCharged", spec := "txCharged", unfollowed := true, recurses := true, apart := false, narrowed := true }
def TxChargedUptoSaid : Prop := txChargedUptoRow.holds Tryz.pinned (OpenSpec.upto txChargedSpec)

/-- 'quashlaw14.TxBounds', WHERE WHAT IT READS IS OF BULK AT MOST 1048576: true; the input reads as it did. -/
def txBoundsUptoRow : OpenClaim := { program := "ytnchfomoaonbkaagreat", sum := "ebca4e8f0edcb406253ba46abfc825a98a48fd0e14872f5a4ca023227c5267c0", func := "quash/quashlaw14.TxBounds", spec := "txBounds", unfollowed := true, recurses := true, apart := false, narrowed := true }
def TxBoundsUptoSaid : Prop := txBoundsUptoRow.holds Tryz.pinned (OpenSpec.upto txBoundsSpec)

end Rows
end Go.Proofs.YtnchfomoaonbkaaGreat
