/-
  No cell of these rows narrows 'for every input' (looked for: loops, veiled, ifaces, maps, wideKeys, modest, calm, conditions, laid).
  DERIVED. THE GIVEN ROWS OF THIS SEAT. 6 by the template 'for every input the law returns true; each argument reads behind the call as it read before'; 0 by the template 'total and deterministic' (their statements: YtgjmamgohidbiaaGreatTotals.lean).
  GIVEN WITH THE SEED: the statements are not yours to turn. If you find one false, say at which input.
  Laid BY PROGRAM, IN A SANDBOX (cutbox-rows.mjs): the forced cells as the released guide's own fill.sh prints them over the translation fe038c1bbfb29aed… (all of the seat's roots in one cut). By AI agents, Wed Nov 11 2026. No macro, syntax, notation, axiom, sorry.
-/
import Derived.Test.YtgjmamgohidbiaaGreatChecked
import GoSem.Claim
import GoSem.ClaimJoined
import GoSem.ClaimMapViews
import Derived.JoinedTies
import Derived.KernelRfl
namespace Go.Proofs.YtgjmamgohidbiaaGreat
/- THE CELL 'sum', in the pinned program and in every row, IS THE sha256 OF THE DUMP (.gsa) THAT YtgjmamgohidbiaaGreatProg.lean LOADS. Nothing in Lean hashes anything: it is a label: what it is worth is what the hold of that sum in a sandbox is worth. -/
noncomputable def Tryz.pinned : Pinned := { name := "ytgjmamgohidbiaagreat", sum := "fe038c1bbfb29aedeecafacd5d53b6a4b99114a986061b3e2a3324236e8cdebb", checked := Tryz.checked }
namespace Rows
def none {H : Type} : Left H := { results := [], args := [] }

/-- 'quashlaw13.CommitPlays': WHATEVER THE INPUT: true; the input reads as it did. -/
def commitPlaysSpec : ChangeSpec := { name := "commitPlays", fn := fun _ => fun
  | [d1, d2] => { results := [.lit (.bool true)], args := [d1, d2] }
  | _ => none }
def commitPlaysRow : OpenClaim := { program := "ytgjmamgohidbiaagreat", sum := "fe038c1bbfb29aedeecafacd5d53b6a4b99114a986061b3e2a3324236e8cdebb", func := "quash/quashlaw13.CommitPlays", spec := "commitPlays", unfollowed := true, recurses := true, apart := false }
def CommitPlaysSaid : Prop := commitPlaysRow.holds Tryz.pinned (OpenSpec.ofChange commitPlaysSpec)

/-- ITS FALSE NEIGHBOUR: 'it returns false'. Refute it at one input. -/
def commitPlaysWrong : ChangeSpec := { name := "commitPlays", fn := fun _ => fun
  | [d1, d2] => { results := [.lit (.bool false)], args := [d1, d2] }
  | _ => none }
def CommitPlaysWrongFalsely : Prop := commitPlaysRow.holds Tryz.pinned (OpenSpec.ofChange commitPlaysWrong)

/-- 'quashlaw13.CommitAlone': WHATEVER THE INPUT: true; the input reads as it did. -/
def commitAloneSpec : ChangeSpec := { name := "commitAlone", fn := fun _ => fun
  | [d1, d2, d3, d4, d5, d6] => { results := [.lit (.bool true)], args := [d1, d2, d3, d4, d5, d6] }
  | _ => none }
def commitAloneRow : OpenClaim := { program := "ytgjmamgohidbiaagreat", sum := "fe038c1bbfb29aedeecafacd5d53b6a4b99114a986061b3e2a3324236e8cdebb", func := "quash/quashlaw13.CommitAlone", spec := "commitAlone", unfollowed := true, recurses := true, apart := false }
def CommitAloneSaid : Prop := commitAloneRow.holds Tryz.pinned (OpenSpec.ofChange commitAloneSpec)

/-- ITS FALSE NEIGHBOUR: 'it returns false'. Refute it at one input. -/
def commitAloneWrong : ChangeSpec := { name := "commitAlone", fn := fun _ => fun
  | [d1, d2, d3, d4, d5, d6] => { results := [.lit (.bool false)], args := [d1, d2, d3, d4, d5, d6] }
  | _ => none }
def CommitAloneWrongFalsely : Prop := commitAloneRow.holds Tryz.pinned (OpenSpec.ofChange commitAloneWrong)

/-- 'quashlaw13.CommitBounds': WHATEVER THE INPUT: true; the input reads as it did. -/
def commitBoundsSpec : ChangeSpec := { name := "commitBounds", fn := fun _ => fun
  | [d1, d2, d3, d4, d5, d6, d7] => { results := [.lit (.bool true)], args := [d1, d2, d3, d4, d5, d6, d7] }
  | _ => none }
def commitBoundsRow : OpenClaim := { program := "ytgjmamgohidbiaagreat", sum := "fe038c1bbfb29aedeecafacd5d53b6a4b99114a986061b3e2a3324236e8cdebb", func := "quash/quashlaw13.CommitBounds", spec := "commitBounds", unfollowed := true, recurses := true, apart := false }
def CommitBoundsSaid : Prop := commitBoundsRow.holds Tryz.pinned (OpenSpec.ofChange commitBoundsSpec)

/-- ITS FALSE NEIGHBOUR: 'it returns false'. Refute it at one input. -/
def commitBoundsWrong : ChangeSpec := { name := "commitBounds", fn := fun _ => fun
  | [d1, d2, d3, d4, d5, d6, d7] => { results := [.lit (.bool false)], args := [d1, d2, d3, d4, d5, d6, d7] }
  | _ => none }
def CommitBoundsWrongFalsely : Prop := commitBoundsRow.holds Tryz.pinned (OpenSpec.ofChange commitBoundsWrong)

/-- 'quashlaw13.CommitMost': WHATEVER THE INPUT: true; the input reads as it did. -/
def commitMostSpec : ChangeSpec := { name := "commitMost", fn := fun _ => fun
  | [d1, d2] => { results := [.lit (.bool true)], args := [d1, d2] }
  | _ => none }
def commitMostRow : OpenClaim := { program := "ytgjmamgohidbiaagreat", sum := "fe038c1bbfb29aedeecafacd5d53b6a4b99114a986061b3e2a3324236e8cdebb", func := "quash/quashlaw13.CommitMost", spec := "commitMost", unfollowed := true, recurses := true, apart := false }
def CommitMostSaid : Prop := commitMostRow.holds Tryz.pinned (OpenSpec.ofChange commitMostSpec)

/-- ITS FALSE NEIGHBOUR: 'it returns false'. Refute it at one input. -/
def commitMostWrong : ChangeSpec := { name := "commitMost", fn := fun _ => fun
  | [d1, d2] => { results := [.lit (.bool false)], args := [d1, d2] }
  | _ => none }
def CommitMostWrongFalsely : Prop := commitMostRow.holds Tryz.pinned (OpenSpec.ofChange commitMostWrong)

/-- 'quashlaw13.CommitDoomed': WHATEVER THE INPUT: true; the input reads as it did. -/
def commitDoomedSpec : ChangeSpec := { name := "commitDoomed", fn := fun _ => fun
  | [d1, d2, d3] => { results := [.lit (.bool true)], args := [d1, d2, d3] }
  | _ => none }
def commitDoomedRow : OpenClaim := { program := "ytgjmamgohidbiaagreat", sum := "fe038c1bbfb29aedeecafacd5d53b6a4b99114a986061b3e2a3324236e8cdebb", func := "quash/quashlaw13.CommitDoomed", spec := "commitDoomed", unfollowed := true, recurses := true, apart := false }
def CommitDoomedSaid : Prop := commitDoomedRow.holds Tryz.pinned (OpenSpec.ofChange commitDoomedSpec)

/-- ITS FALSE NEIGHBOUR: 'it returns false'. Refute it at one input. -/
def commitDoomedWrong : ChangeSpec := { name := "commitDoomed", fn := fun _ => fun
  | [d1, d2, d3] => { results := [.lit (.bool false)], args := [d1, d2, d3] }
  | _ => none }
def CommitDoomedWrongFalsely : Prop := commitDoomedRow.holds Tryz.pinned (OpenSpec.ofChange commitDoomedWrong)

/-- 'quashlaw13.CommitTwo': WHATEVER THE INPUT: true; the input reads as it did. -/
def commitTwoSpec : ChangeSpec := { name := "commitTwo", fn := fun _ => fun
  | [d1, d2, d3, d4] => { results := [.lit (.bool true)], args := [d1, d2, d3, d4] }
  | _ => none }
def commitTwoRow : OpenClaim := { program := "ytgjmamgohidbiaagreat", sum := "fe038c1bbfb29aedeecafacd5d53b6a4b99114a986061b3e2a3324236e8cdebb", func := "quash/quashlaw13.CommitTwo", spec := "commitTwo", unfollowed := true, recurses := true, apart := false }
def CommitTwoSaid : Prop := commitTwoRow.holds Tryz.pinned (OpenSpec.ofChange commitTwoSpec)

/-- ITS FALSE NEIGHBOUR: 'it returns false'. Refute it at one input. -/
def commitTwoWrong : ChangeSpec := { name := "commitTwo", fn := fun _ => fun
  | [d1, d2, d3, d4] => { results := [.lit (.bool false)], args := [d1, d2, d3, d4] }
  | _ => none }
def CommitTwoWrongFalsely : Prop := commitTwoRow.holds Tryz.pinned (OpenSpec.ofChange commitTwoWrong)

/- THE SECOND FORM. 'bulk': how many values and letters a reading holds, each counted each time it is reached (what is shared counts as often as it is met; a slice's spare places count too). A statement '..UptoSaid' is the law's where the arguments, and the package variables that the reading takes, are together of bulk at most 1048576: NARROWER than '..Said'. Prove '..Said' where nothing that the law and all that it calls make is longer than what came in: it says more and counts as full. Else prove '..UptoSaid'. A law counts once. -/
mutual
def uptoBulk {H : Type} : DataW H → Nat
  | .lit (.string bytes) => bytes.length + 1
  | .lit _ => 1
  | .nil => 1
  | .ptr d => uptoBulk d + 1
  | .slice elems spare => uptoBulkAll elems + uptoBulkAll spare + 1
  | .agg parts => uptoBulkAll parts + 1
  | .iface _ d => uptoBulk d + 1
  | .map entries => uptoBulkEntries entries + 1
  | .held _ => 1
def uptoBulkAll {H : Type} : List (DataW H) → Nat
  | [] => 0
  | d :: r => uptoBulk d + uptoBulkAll r
def uptoBulkEntries {H : Type} : List (Lit × DataW H) → Nat
  | [] => 0
  | x :: r => uptoBulkEntry x + uptoBulkEntries r
def uptoBulkEntry {H : Type} : Lit × DataW H → Nat
  | (.string bytes, d) => bytes.length + uptoBulk d + 1
  | (_, d) => uptoBulk d + 1
 end
def uptoSmall : (H : Type) → List (DataW H) → Bool := fun _ ds => decide (uptoBulkAll ds ≤ 1048576)
def OpenSpec.upto (s : _root_.Go.ChangeSpec) : _root_.Go.OpenSpec := { _root_.Go.OpenSpec.ofChange s with cond := some uptoSmall }

/-- 'quashlaw13.CommitPlays', WHERE WHAT IT READS IS OF BULK AT MOST 1048576: true; the input reads as it did. -/
def commitPlaysUptoRow : OpenClaim := { program := "ytgjmamgohidbiaagreat", sum := "fe038c1bbfb29aedeecafacd5d53b6a4b99114a986061b3e2a3324236e8cdebb", func := "quash/quashlaw13.CommitPlays", spec := "commitPlays", unfollowed := true, recurses := true, apart := false, narrowed := true }
def CommitPlaysUptoSaid : Prop := commitPlaysUptoRow.holds Tryz.pinned (OpenSpec.upto commitPlaysSpec)

/-- 'quashlaw13.CommitAlone', WHERE WHAT IT READS IS OF BULK AT MOST 1048576: true; the input reads as it did. -/
def commitAloneUptoRow : OpenClaim := { program := "ytgjmamgohidbiaagreat", sum := "fe038c1bbfb29aedeecafacd5d53b6a4b99114a986061b3e2a3324236e8cdebb", func := "quash/quashlaw13.CommitAlone", spec := "commitAlone", unfollowed := true, recurses := true, apart := false, narrowed := true }
def CommitAloneUptoSaid : Prop := commitAloneUptoRow.holds Tryz.pinned (OpenSpec.upto commitAloneSpec)

/-- 'quashlaw13.CommitBounds', WHERE WHAT IT READS IS OF BULK AT MOST 1048576: true; the input reads as it did. -/
def commitBoundsUptoRow : OpenClaim := { program := "ytgjmamgohidbiaagreat", sum := "fe038c1bbfb29aedeecafacd5d53b6a4b99114a986061b3e2a3324236e8cdebb", func := "quash/quashlaw13.CommitBounds", spec := "commitBounds", unfollowed := true, recurses := true, apart := false, narrowed := true }
def CommitBoundsUptoSaid : Prop := commitBoundsUptoRow.holds Tryz.pinned (OpenSpec.upto commitBoundsSpec)

/-- 'quashlaw13.CommitMost', WHERE WHAT IT READS IS OF BULK AT MOST 1048576: true; the input reads as it did. -/
def commitMostUptoRow : OpenClaim := { program := "ytgjmamgohidbiaagreat", sum := "fe038c1bbfb29aedeecafacd5d53b6a4b99114a986061b3e2a3324236e8cdebb", func := "quash/quashlaw13.CommitMost", spec := "commitMost", unfollowed := true, recurses := true, apart := false, narrowed := true }
def CommitMostUptoSaid : Prop := commitMostUptoRow.holds Tryz.pinned (OpenSpec.upto commitMostSpec)

/-- 'quashlaw13.CommitDoomed', WHERE WHAT IT READS IS OF BULK AT MOST 1048576: true; the input reads as it did. -/
def commitDoomedUptoRow : OpenClaim := { program := "ytgjmamgohidbiaagreat", sum := "fe038c1bbfb29aedeecafacd5d53b6a4b99114a986061b3e2a3324236e8cdebb", func := "quash/quashlaw13.CommitDoomed", spec := "commitDoomed", unfollowed := true, recurses := true, apart := false, narrowed := true }
def CommitDoomedUptoSaid : Prop := commitDoomedUptoRow.holds Tryz.pinned (OpenSpec.upto commitDoomedSpec)

/-- 'quashlaw13.CommitTwo', WHERE WHAT IT READS IS OF BULK AT MOST 1048576: true; the input reads as it did. -/
def commitTwoUptoRow : OpenClaim := { program := "ytgjmamgohidbiaagreat", sum := "fe038c1bbfb29aedeecafacd5d53b6a4b99114a986061b3e2a3324236e8cdebb", func := "quash/quashlaw13.CommitTwo", spec := "commitTwo", unfollowed := true, recurses := true, apart := false, narrowed := true }
def CommitTwoUptoSaid : Prop := commitTwoUptoRow.holds Tryz.pinned (OpenSpec.upto commitTwoSpec)

end Rows
end Go.Proofs.YtgjmamgohidbiaaGreat
