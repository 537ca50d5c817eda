/-
  No cell of these rows narrows 'for every input' (looked for: loops, veiled, ifaces, maps, wideKeys, modest, calm, conditions, laid).
  DERIVED. THE GIVEN ROWS OF THIS SEAT. 3 by the template 'for every input the law returns true; each argument reads behind the call as it read before'; 0 by the template 'total and deterministic' (their statements: YtpjhljfcoejndaaTotals.lean).
  GIVEN WITH THE SEED: the statements are not yours to turn. If you find one false, say at which input.
  Laid BY PROGRAM, IN A SANDBOX (cutbox-rows.mjs): the forced cells as the released guide's own fill.sh prints them over the translation aefacdea4752ce90… (all of the seat's roots in one cut). By AI agents, Wed Nov 11 2026. No macro, syntax, notation, axiom, sorry.
-/
import Derived.Test.YtpjhljfcoejndaaChecked
import GoSem.Claim
import GoSem.ClaimJoined
import GoSem.ClaimMapViews
import Derived.JoinedTies
import Derived.KernelRfl
namespace Go.Proofs.Ytpjhljfcoejndaa
/- THE CELL 'sum', in the pinned program and in every row, IS THE sha256 OF THE DUMP (.gsa) THAT YtpjhljfcoejndaaProg.lean LOADS. Nothing in Lean hashes anything: it is a label: what it is worth is what the hold of that sum in a sandbox is worth. -/
noncomputable def Try.pinned : Pinned := { name := "ytpjhljfcoejndaa", sum := "aefacdea4752ce900cf7a2b79c39719c900dd17766c4ec12c7784a64ccd7ff9f", checked := Try.checked }
namespace Rows
def none {H : Type} : Left H := { results := [], args := [] }

/-- 'quashlaw10.StartFinds': WHATEVER THE INPUT: true; the input reads as it did. -/
def startFindsSpec : ChangeSpec := { name := "startFinds", fn := fun _ => fun
  | [d1, d2, d3] => { results := [.lit (.bool true)], args := [d1, d2, d3] }
  | _ => none }
def startFindsRow : OpenClaim := { program := "ytpjhljfcoejndaa", sum := "aefacdea4752ce900cf7a2b79c39719c900dd17766c4ec12c7784a64ccd7ff9f", func := "quash/quashlaw10.StartFinds", spec := "startFinds", unfollowed := true, recurses := true, apart := false }
def StartFindsSaid : Prop := startFindsRow.holds Try.pinned (OpenSpec.ofChange startFindsSpec)

/-- ITS FALSE NEIGHBOUR: 'it returns false'. Refute it at one input. -/
def startFindsWrong : ChangeSpec := { name := "startFinds", fn := fun _ => fun
  | [d1, d2, d3] => { results := [.lit (.bool false)], args := [d1, d2, d3] }
  | _ => none }
def StartFindsWrongFalsely : Prop := startFindsRow.holds Try.pinned (OpenSpec.ofChange startFindsWrong)

/-- 'quashlaw10.StartOne': WHATEVER THE INPUT: true; the input reads as it did. -/
def startOneSpec : ChangeSpec := { name := "startOne", fn := fun _ => fun
  | [d1, d2, d3, d4] => { results := [.lit (.bool true)], args := [d1, d2, d3, d4] }
  | _ => none }
def startOneRow : OpenClaim := { program := "ytpjhljfcoejndaa", sum := "aefacdea4752ce900cf7a2b79c39719c900dd17766c4ec12c7784a64ccd7ff9f", func := "quash/quashlaw10.StartOne", spec := "startOne", unfollowed := true, recurses := true, apart := false }
def StartOneSaid : Prop := startOneRow.holds Try.pinned (OpenSpec.ofChange startOneSpec)

/-- ITS FALSE NEIGHBOUR: 'it returns false'. Refute it at one input. -/
def startOneWrong : ChangeSpec := { name := "startOne", fn := fun _ => fun
  | [d1, d2, d3, d4] => { results := [.lit (.bool false)], args := [d1, d2, d3, d4] }
  | _ => none }
def StartOneWrongFalsely : Prop := startOneRow.holds Try.pinned (OpenSpec.ofChange startOneWrong)

/-- 'quashlaw10.StartAll': WHATEVER THE INPUT: true; the input reads as it did. -/
def startAllSpec : ChangeSpec := { name := "startAll", fn := fun _ => fun
  | [d1, d2] => { results := [.lit (.bool true)], args := [d1, d2] }
  | _ => none }
def startAllRow : OpenClaim := { program := "ytpjhljfcoejndaa", sum := "aefacdea4752ce900cf7a2b79c39719c900dd17766c4ec12c7784a64ccd7ff9f", func := "quash/quashlaw10.StartAll", spec := "startAll", unfollowed := true, recurses := true, apart := false }
def StartAllSaid : Prop := startAllRow.holds Try.pinned (OpenSpec.ofChange startAllSpec)

/-- ITS FALSE NEIGHBOUR: 'it returns false'. Refute it at one input. -/
def startAllWrong : ChangeSpec := { name := "startAll", fn := fun _ => fun
  | [d1, d2] => { results := [.lit (.bool false)], args := [d1, d2] }
  | _ => none }
def StartAllWrongFalsely : Prop := startAllRow.holds Try.pinned (OpenSpec.ofChange startAllWrong)

/- THE SECOND FORM. 'bulk': how many values and letters a reading holds, each counted each time it is reached (what is shared counts as often as it is met; a slice's spare places count too). A statement '..UptoSaid' is the law's where the arguments, and the package variables that the reading takes, are together of bulk at most 1048576: NARROWER than '..Said'. Prove '..Said' where nothing that the law and all that it calls make is longer than what came in: it says more and counts as full. Else prove '..UptoSaid'. A law counts once. -/
mutual
def uptoBulk {H : Type} : DataW H → Nat
  | .lit (.string bytes) => bytes.length + 1
  | .lit _ => 1
  | .nil => 1
  | .ptr d => uptoBulk d + 1
  | .slice elems spare => uptoBulkAll elems + uptoBulkAll spare + 1
  | .agg parts => uptoBulkAll parts + 1
  | .iface _ d => uptoBulk d + 1
  | .map entries => uptoBulkEntries entries + 1
  | .held _ => 1
def uptoBulkAll {H : Type} : List (DataW H) → Nat
  | [] => 0
  | d :: r => uptoBulk d + uptoBulkAll r
def uptoBulkEntries {H : Type} : List (Lit × DataW H) → Nat
  | [] => 0
  | x :: r => uptoBulkEntry x + uptoBulkEntries r
def uptoBulkEntry {H : Type} : Lit × DataW H → Nat
  | (.string bytes, d) => bytes.length + uptoBulk d + 1
  | (_, d) => uptoBulk d + 1
 end
def uptoSmall : (H : Type) → List (DataW H) → Bool := fun _ ds => decide (uptoBulkAll ds ≤ 1048576)
def OpenSpec.upto (s : _root_.Go.ChangeSpec) : _root_.Go.OpenSpec := { _root_.Go.OpenSpec.ofChange s with cond := some uptoSmall }

/-- 'quashlaw10.StartFinds', WHERE WHAT IT READS IS OF BULK AT MOST 1048576: true; the input reads as it did. -/
def startFindsUptoRow : OpenClaim := { program := "ytpjhljfcoejndaa", sum := "aefacdea4752ce900cf7a2b79c39719c900dd17766c4ec12c7784a64ccd7ff9f", func := "quash/quashlaw10.StartFinds", spec := "startFinds", unfollowed := true, recurses := true, apart := false, narrowed := true }
def StartFindsUptoSaid : Prop := startFindsUptoRow.holds Try.pinned (OpenSpec.upto startFindsSpec)

/-- 'quashlaw10.StartOne', WHERE WHAT IT READS IS OF BULK AT MOST 1048576: true; the input reads as it did. -/
def startOneUptoRow : OpenClaim := { program := "ytpjhljfcoejndaa", sum := "aefacdea4752ce900cf7a2b79c39719c900dd17766c4ec12c7784a64ccd7ff9f", func := "quash/quashlaw10.StartOne", spec := "startOne", unfollowed := true, recurses := true, apart := false, narrowed := true }
def StartOneUptoSaid : Prop := startOneUptoRow.holds Try.pinned (OpenSpec.upto startOneSpec)

/-- 'quashlaw10.StartAll', WHERE WHAT IT READS IS OF BULK AT MOST 1048576: true; the input reads as it did. -/
def startAllUptoRow : OpenClaim := { program := "ytpjhljfcoejndaa", sum := "aefacdea4752ce900cf7a2b79c39719c900dd17766c4ec12c7784a64ccd7ff9f", func := "quash/quashlaw10.StartAll", spec := "startAll", unfollowed := true, recurses := true, apart := false, narrowed := true }
def StartAllUptoSaid : Prop := startAllUptoRow.holds Try.pinned (OpenSpec.upto startAllSpec)

end Rows
end Go.Proofs.Ytpjhljfcoejndaa
