/-
  No cell of these rows narrows 'for every input' (looked for: loops, veiled, ifaces, maps, wideKeys, modest, calm, conditions, laid).
  DERIVED. THE GIVEN ROWS OF THIS SEAT. 4 by the template 'for every input the law returns true; each argument reads behind the call as it read before'; 0 by the template 'total and deterministic' (their statements: YtjljipbmbelmgaaTotals.lean).
  GIVEN WITH THE SEED: the statements are not yours to turn. If you find one false, say at which input.
  Laid BY PROGRAM, IN A SANDBOX (cutbox-rows.mjs): the forced cells as the released guide's own fill.sh prints them over the translation e2eb7e5aeca6d2f0… (all of the seat's roots in one cut). By AI agents, Wed Nov 11 2026. No macro, syntax, notation, axiom, sorry.
-/
import Derived.Test.YtjljipbmbelmgaaChecked
import GoSem.Claim
import GoSem.ClaimJoined
import GoSem.ClaimMapViews
import Derived.JoinedTies
import Derived.KernelRfl
namespace Go.Proofs.Ytjljipbmbelmgaa
/- THE CELL 'sum', in the pinned program and in every row, IS THE sha256 OF THE DUMP (.gsa) THAT YtjljipbmbelmgaaProg.lean LOADS. Nothing in Lean hashes anything: it is a label: what it is worth is what the hold of that sum in a sandbox is worth. -/
noncomputable def Try.pinned : Pinned := { name := "ytjljipbmbelmgaa", sum := "e2eb7e5aeca6d2f0c01ce94147d8eb9fbeff6694650d3523ccbdda3ff4a11590", checked := Try.checked }
namespace Rows
def none {H : Type} : Left H := { results := [], args := [] }

/-- 'quashlaw09.PolicyVerdicts': WHATEVER THE INPUT: true; the input reads as it did. -/
def policyVerdictsSpec : ChangeSpec := { name := "policyVerdicts", fn := fun _ => fun
  | [d1, d2, d3, d4] => { results := [.lit (.bool true)], args := [d1, d2, d3, d4] }
  | _ => none }
def policyVerdictsRow : OpenClaim := { program := "ytjljipbmbelmgaa", sum := "e2eb7e5aeca6d2f0c01ce94147d8eb9fbeff6694650d3523ccbdda3ff4a11590", func := "quash/quashlaw09.PolicyVerdicts", spec := "policyVerdicts", unfollowed := true, recurses := true, apart := false }
def PolicyVerdictsSaid : Prop := policyVerdictsRow.holds Try.pinned (OpenSpec.ofChange policyVerdictsSpec)

/-- ITS FALSE NEIGHBOUR: 'it returns false'. Refute it at one input. -/
def policyVerdictsWrong : ChangeSpec := { name := "policyVerdicts", fn := fun _ => fun
  | [d1, d2, d3, d4] => { results := [.lit (.bool false)], args := [d1, d2, d3, d4] }
  | _ => none }
def PolicyVerdictsWrongFalsely : Prop := policyVerdictsRow.holds Try.pinned (OpenSpec.ofChange policyVerdictsWrong)

/-- 'quashlaw09.PolicyJudges': WHATEVER THE INPUT: true; the input reads as it did. -/
def policyJudgesSpec : ChangeSpec := { name := "policyJudges", fn := fun _ => fun
  | [d1, d2, d3] => { results := [.lit (.bool true)], args := [d1, d2, d3] }
  | _ => none }
def policyJudgesRow : OpenClaim := { program := "ytjljipbmbelmgaa", sum := "e2eb7e5aeca6d2f0c01ce94147d8eb9fbeff6694650d3523ccbdda3ff4a11590", func := "quash/quashlaw09.PolicyJudges", spec := "policyJudges", unfollowed := true, recurses := true, apart := false }
def PolicyJudgesSaid : Prop := policyJudgesRow.holds Try.pinned (OpenSpec.ofChange policyJudgesSpec)

/-- ITS FALSE NEIGHBOUR: 'it returns false'. Refute it at one input. -/
def policyJudgesWrong : ChangeSpec := { name := "policyJudges", fn := fun _ => fun
  | [d1, d2, d3] => { results := [.lit (.bool false)], args := [d1, d2, d3] }
  | _ => none }
def PolicyJudgesWrongFalsely : Prop := policyJudgesRow.holds Try.pinned (OpenSpec.ofChange policyJudgesWrong)

/-- 'quashlaw09.PolicyEnds': WHATEVER THE INPUT: true; the input reads as it did. -/
def policyEndsSpec : ChangeSpec := { name := "policyEnds", fn := fun _ => fun
  | [d1, d2] => { results := [.lit (.bool true)], args := [d1, d2] }
  | _ => none }
def policyEndsRow : OpenClaim := { program := "ytjljipbmbelmgaa", sum := "e2eb7e5aeca6d2f0c01ce94147d8eb9fbeff6694650d3523ccbdda3ff4a11590", func := "quash/quashlaw09.PolicyEnds", spec := "policyEnds", unfollowed := true, recurses := true, apart := false }
def PolicyEndsSaid : Prop := policyEndsRow.holds Try.pinned (OpenSpec.ofChange policyEndsSpec)

/-- ITS FALSE NEIGHBOUR: 'it returns false'. Refute it at one input. -/
def policyEndsWrong : ChangeSpec := { name := "policyEnds", fn := fun _ => fun
  | [d1, d2] => { results := [.lit (.bool false)], args := [d1, d2] }
  | _ => none }
def PolicyEndsWrongFalsely : Prop := policyEndsRow.holds Try.pinned (OpenSpec.ofChange policyEndsWrong)

/-- 'quashlaw09.PolicyOrder': WHATEVER THE INPUT: true; the input reads as it did. -/
def policyOrderSpec : ChangeSpec := { name := "policyOrder", fn := fun _ => fun
  | [d1, d2, d3, d4, d5] => { results := [.lit (.bool true)], args := [d1, d2, d3, d4, d5] }
  | _ => none }
def policyOrderRow : OpenClaim := { program := "ytjljipbmbelmgaa", sum := "e2eb7e5aeca6d2f0c01ce94147d8eb9fbeff6694650d3523ccbdda3ff4a11590", func := "quash/quashlaw09.PolicyOrder", spec := "policyOrder", unfollowed := true, recurses := true, apart := false }
def PolicyOrderSaid : Prop := policyOrderRow.holds Try.pinned (OpenSpec.ofChange policyOrderSpec)

/-- ITS FALSE NEIGHBOUR: 'it returns false'. Refute it at one input. -/
def policyOrderWrong : ChangeSpec := { name := "policyOrder", fn := fun _ => fun
  | [d1, d2, d3, d4, d5] => { results := [.lit (.bool false)], args := [d1, d2, d3, d4, d5] }
  | _ => none }
def PolicyOrderWrongFalsely : Prop := policyOrderRow.holds Try.pinned (OpenSpec.ofChange policyOrderWrong)

/- THE SECOND FORM. 'bulk': how many values and letters a reading holds, each counted each time it is reached (what is shared counts as often as it is met; a slice's spare places count too). A statement '..UptoSaid' is the law's where the arguments, and the package variables that the reading takes, are together of bulk at most 1048576: NARROWER than '..Said'. Prove '..Said' where nothing that the law and all that it calls make is longer than what came in: it says more and counts as full. Else prove '..UptoSaid'. A law counts once. -/
mutual
def uptoBulk {H : Type} : DataW H → Nat
  | .lit (.string bytes) => bytes.length + 1
  | .lit _ => 1
  | .nil => 1
  | .ptr d => uptoBulk d + 1
  | .slice elems spare => uptoBulkAll elems + uptoBulkAll spare + 1
  | .agg parts => uptoBulkAll parts + 1
  | .iface _ d => uptoBulk d + 1
  | .map entries => uptoBulkEntries entries + 1
  | .held _ => 1
def uptoBulkAll {H : Type} : List (DataW H) → Nat
  | [] => 0
  | d :: r => uptoBulk d + uptoBulkAll r
def uptoBulkEntries {H : Type} : List (Lit × DataW H) → Nat
  | [] => 0
  | x :: r => uptoBulkEntry x + uptoBulkEntries r
def uptoBulkEntry {H : Type} : Lit × DataW H → Nat
  | (.string bytes, d) => bytes.length + uptoBulk d + 1
  | (_, d) => uptoBulk d + 1
 end
def uptoSmall : (H : Type) → List (DataW H) → Bool := fun _ ds => decide (uptoBulkAll ds ≤ 1048576)
def OpenSpec.upto (s : _root_.Go.ChangeSpec) : _root_.Go.OpenSpec := { _root_.Go.OpenSpec.ofChange s with cond := some uptoSmall }

/-- 'quashlaw09.PolicyVerdicts', WHERE WHAT IT READS IS OF BULK AT MOST 1048576: true; the input reads as it did. -/
def policyVerdictsUptoRow : OpenClaim := { program := "ytjljipbmbelmgaa", sum := "e2eb7e5aeca6d2f0c01ce94147d8eb9fbeff6694650d3523ccbdda3ff4a11590", func := "quash/quashlaw09.PolicyVerdicts", spec := "policyVerdicts", unfollowed := true, recurses := true, apart := false, narrowed := true }
def PolicyVerdictsUptoSaid : Prop := policyVerdictsUptoRow.holds Try.pinned (OpenSpec.upto policyVerdictsSpec)

/-- 'quashlaw09.PolicyJudges', WHERE WHAT IT READS IS OF BULK AT MOST 1048576: true; the input reads as it did. -/
def policyJudgesUptoRow : OpenClaim := { program := "ytjljipbmbelmgaa", sum := "e2eb7e5aeca6d2f0c01ce94147d8eb9fbeff6694650d3523ccbdda3ff4a11590", func := "quash/quashlaw09.PolicyJudges", spec := "policyJudges", unfollowed := true, recurses := true, apart := false, narrowed := true }
def PolicyJudgesUptoSaid : Prop := policyJudgesUptoRow.holds Try.pinned (OpenSpec.upto policyJudgesSpec)

/-- 'quashlaw09.PolicyEnds', WHERE WHAT IT READS IS OF BULK AT MOST 1048576: true; the input reads as it did. -/
def policyEndsUptoRow : OpenClaim := { program := "ytjljipbmbelmgaa", sum := "e2eb7e5aeca6d2f0c01ce94147d8eb9fbeff6694650d3523ccbdda3ff4a11590", func := "quash/quashlaw09.PolicyEnds", spec := "policyEnds", unfollowed := true, recurses := true, apart := false, narrowed := true }
def PolicyEndsUptoSaid : Prop := policyEndsUptoRow.holds Try.pinned (OpenSpec.upto policyEndsSpec)

/-- 'quashlaw09.PolicyOrder', WHERE WHAT IT READS IS OF BULK AT MOST 1048576: true; the input reads as it did. -/
def policyOrderUptoRow : OpenClaim := { program := "ytjljipbmbelmgaa", sum := "e2eb7e5aeca6d2f0c01ce94147d8eb9fbeff6694650d3523ccbdda3ff4a11590", func := "quash/quashlaw09.PolicyOrder", spec := "policyOrder", unfollowed := true, recurses := true, apart := false, narrowed := true }
def PolicyOrderUptoSaid : Prop := policyOrderUptoRow.holds Try.pinned (OpenSpec.upto policyOrderSpec)

end Rows
end Go.Proofs.Ytjljipbmbelmgaa
