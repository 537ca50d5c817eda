/-
  No cell of these rows narrows 'for every input' (looked for: loops, veiled, ifaces, maps, wideKeys, modest, calm, conditions, laid).
  DERIVED. THE GIVEN ROWS OF THIS SEAT. 6 by the template 'for every input the law returns true; each argument reads behind the call as it read before'; 0 by the template 'total and deterministic' (their statements: YthbcbjkgjgmegaaGreatTotals.lean).
  GIVEN WITH THE SEED: the statements are not yours to turn. If you find one false, say at which input.
  Laid BY PROGRAM, IN A SANDBOX (cutbox-rows.mjs): the forced cells as the released guide's own fill.sh prints them over the translation a0ca0ef30e977b44… (all of the seat's roots in one cut). By AI agents, Wed Nov 11 2026. No macro, syntax, notation, axiom, sorry.
-/
import Derived.Test.YthbcbjkgjgmegaaGreatChecked
import GoSem.Claim
import GoSem.ClaimJoined
import GoSem.ClaimMapViews
import Derived.JoinedTies
import Derived.KernelRfl
namespace Go.Proofs.YthbcbjkgjgmegaaGreat
/- THE CELL 'sum', in the pinned program and in every row, IS THE sha256 OF THE DUMP (.gsa) THAT YthbcbjkgjgmegaaGreatProg.lean LOADS. Nothing in Lean hashes anything: it is a label: what it is worth is what the hold of that sum in a sandbox is worth. -/
noncomputable def Tryz.pinned : Pinned := { name := "ythbcbjkgjgmegaagreat", sum := "a0ca0ef30e977b44a626f8cff5255e54b7ddc81f6342f82d61bd23c3dfc15474", checked := Tryz.checked }
namespace Rows
def none {H : Type} : Left H := { results := [], args := [] }

/-- 'quashlaw16.ProgNames': WHATEVER THE INPUT: true; the input reads as it did. -/
def progNamesSpec : ChangeSpec := { name := "progNames", fn := fun _ => fun
  | [] => { results := [.lit (.bool true)], args := [] }
  | _ => none }
def progNamesRow : OpenClaim := { program := "ythbcbjkgjgmegaagreat", sum := "a0ca0ef30e977b44a626f8cff5255e54b7ddc81f6342f82d61bd23c3dfc15474", func := "quash/quashlaw16.ProgNames", spec := "progNames", unfollowed := true, recurses := true, apart := false }
def ProgNamesSaid : Prop := progNamesRow.holds Tryz.pinned (OpenSpec.ofChange progNamesSpec)

/-- ITS FALSE NEIGHBOUR: 'it returns false'. Refute it at one input. -/
def progNamesWrong : ChangeSpec := { name := "progNames", fn := fun _ => fun
  | [] => { results := [.lit (.bool false)], args := [] }
  | _ => none }
def ProgNamesWrongFalsely : Prop := progNamesRow.holds Tryz.pinned (OpenSpec.ofChange progNamesWrong)

/-- 'quashlaw16.ProgNews': WHATEVER THE INPUT: true; the input reads as it did. -/
def progNewsSpec : ChangeSpec := { name := "progNews", fn := fun _ => fun
  | [d1, d2, d3] => { results := [.lit (.bool true)], args := [d1, d2, d3] }
  | _ => none }
def progNewsRow : OpenClaim := { program := "ythbcbjkgjgmegaagreat", sum := "a0ca0ef30e977b44a626f8cff5255e54b7ddc81f6342f82d61bd23c3dfc15474", func := "quash/quashlaw16.ProgNews", spec := "progNews", unfollowed := true, recurses := true, apart := false }
def ProgNewsSaid : Prop := progNewsRow.holds Tryz.pinned (OpenSpec.ofChange progNewsSpec)

/-- ITS FALSE NEIGHBOUR: 'it returns false'. Refute it at one input. -/
def progNewsWrong : ChangeSpec := { name := "progNews", fn := fun _ => fun
  | [d1, d2, d3] => { results := [.lit (.bool false)], args := [d1, d2, d3] }
  | _ => none }
def ProgNewsWrongFalsely : Prop := progNewsRow.holds Tryz.pinned (OpenSpec.ofChange progNewsWrong)

/-- 'quashlaw16.ProgPlays': WHATEVER THE INPUT: true; the input reads as it did. -/
def progPlaysSpec : ChangeSpec := { name := "progPlays", fn := fun _ => fun
  | [d1, d2, d3, d4] => { results := [.lit (.bool true)], args := [d1, d2, d3, d4] }
  | _ => none }
def progPlaysRow : OpenClaim := { program := "ythbcbjkgjgmegaagreat", sum := "a0ca0ef30e977b44a626f8cff5255e54b7ddc81f6342f82d61bd23c3dfc15474", func := "quash/quashlaw16.ProgPlays", spec := "progPlays", unfollowed := true, recurses := true, apart := false }
def ProgPlaysSaid : Prop := progPlaysRow.holds Tryz.pinned (OpenSpec.ofChange progPlaysSpec)

/-- ITS FALSE NEIGHBOUR: 'it returns false'. Refute it at one input. -/
def progPlaysWrong : ChangeSpec := { name := "progPlays", fn := fun _ => fun
  | [d1, d2, d3, d4] => { results := [.lit (.bool false)], args := [d1, d2, d3, d4] }
  | _ => none }
def ProgPlaysWrongFalsely : Prop := progPlaysRow.holds Tryz.pinned (OpenSpec.ofChange progPlaysWrong)

/-- 'quashlaw16.ProgSafe': WHATEVER THE INPUT: true; the input reads as it did. -/
def progSafeSpec : ChangeSpec := { name := "progSafe", fn := fun _ => fun
  | [d1, d2, d3, d4] => { results := [.lit (.bool true)], args := [d1, d2, d3, d4] }
  | _ => none }
def progSafeRow : OpenClaim := { program := "ythbcbjkgjgmegaagreat", sum := "a0ca0ef30e977b44a626f8cff5255e54b7ddc81f6342f82d61bd23c3dfc15474", func := "quash/quashlaw16.ProgSafe", spec := "progSafe", unfollowed := true, recurses := true, apart := false }
def ProgSafeSaid : Prop := progSafeRow.holds Tryz.pinned (OpenSpec.ofChange progSafeSpec)

/-- ITS FALSE NEIGHBOUR: 'it returns false'. Refute it at one input. -/
def progSafeWrong : ChangeSpec := { name := "progSafe", fn := fun _ => fun
  | [d1, d2, d3, d4] => { results := [.lit (.bool false)], args := [d1, d2, d3, d4] }
  | _ => none }
def ProgSafeWrongFalsely : Prop := progSafeRow.holds Tryz.pinned (OpenSpec.ofChange progSafeWrong)

/-- 'quashlaw16.ProgAlone': WHATEVER THE INPUT: true; the input reads as it did. -/
def progAloneSpec : ChangeSpec := { name := "progAlone", fn := fun _ => fun
  | [d1, d2, d3, d4] => { results := [.lit (.bool true)], args := [d1, d2, d3, d4] }
  | _ => none }
def progAloneRow : OpenClaim := { program := "ythbcbjkgjgmegaagreat", sum := "a0ca0ef30e977b44a626f8cff5255e54b7ddc81f6342f82d61bd23c3dfc15474", func := "quash/quashlaw16.ProgAlone", spec := "progAlone", unfollowed := true, recurses := true, apart := false }
def ProgAloneSaid : Prop := progAloneRow.holds Tryz.pinned (OpenSpec.ofChange progAloneSpec)

/-- ITS FALSE NEIGHBOUR: 'it returns false'. Refute it at one input. -/
def progAloneWrong : ChangeSpec := { name := "progAlone", fn := fun _ => fun
  | [d1, d2, d3, d4] => { results := [.lit (.bool false)], args := [d1, d2, d3, d4] }
  | _ => none }
def ProgAloneWrongFalsely : Prop := progAloneRow.holds Tryz.pinned (OpenSpec.ofChange progAloneWrong)

/-- 'quashlaw16.ProgWhole': WHATEVER THE INPUT: true; the input reads as it did. -/
def progWholeSpec : ChangeSpec := { name := "progWhole", fn := fun _ => fun
  | [d1, d2, d3, d4] => { results := [.lit (.bool true)], args := [d1, d2, d3, d4] }
  | _ => none }
def progWholeRow : OpenClaim := { program := "ythbcbjkgjgmegaagreat", sum := "a0ca0ef30e977b44a626f8cff5255e54b7ddc81f6342f82d61bd23c3dfc15474", func := "quash/quashlaw16.ProgWhole", spec := "progWhole", unfollowed := true, recurses := true, apart := false }
def ProgWholeSaid : Prop := progWholeRow.holds Tryz.pinned (OpenSpec.ofChange progWholeSpec)

/-- ITS FALSE NEIGHBOUR: 'it returns false'. Refute it at one input. -/
def progWholeWrong : ChangeSpec := { name := "progWhole", fn := fun _ => fun
  | [d1, d2, d3, d4] => { results := [.lit (.bool false)], args := [d1, d2, d3, d4] }
  | _ => none }
def ProgWholeWrongFalsely : Prop := progWholeRow.holds Tryz.pinned (OpenSpec.ofChange progWholeWrong)

/- THE SECOND FORM. 'bulk': how many values and letters a reading holds, each counted each time it is reached (what is shared counts as often as it is met; a slice's spare places count too). A statement '..UptoSaid' is the law's where the arguments, and the package variables that the reading takes, are together of bulk at most 1048576: NARROWER than '..Said'. Prove '..Said' where nothing that the law and all that it calls make is longer than what came in: it says more and counts as full. Else prove '..UptoSaid'. A law counts once. -/
mutual
def uptoBulk {H : Type} : DataW H → Nat
  | .lit (.string bytes) => bytes.length + 1
  | .lit _ => 1
  | .nil => 1
  | .ptr d => uptoBulk d + 1
  | .slice elems spare => uptoBulkAll elems + uptoBulkAll spare + 1
  | .agg parts => uptoBulkAll parts + 1
  | .iface _ d => uptoBulk d + 1
  | .map entries => uptoBulkEntries entries + 1
  | .held _ => 1
def uptoBulkAll {H : Type} : List (DataW H) → Nat
  | [] => 0
  | d :: r => uptoBulk d + uptoBulkAll r
def uptoBulkEntries {H : Type} : List (Lit × DataW H) → Nat
  | [] => 0
  | x :: r => uptoBulkEntry x + uptoBulkEntries r
def uptoBulkEntry {H : Type} : Lit × DataW H → Nat
  | (.string bytes, d) => bytes.length + uptoBulk d + 1
  | (_, d) => uptoBulk d + 1
 end
def uptoSmall : (H : Type) → List (DataW H) → Bool := fun _ ds => decide (uptoBulkAll ds ≤ 1048576)
def OpenSpec.upto (s : _root_.Go.ChangeSpec) : _root_.Go.OpenSpec := { _root_.Go.OpenSpec.ofChange s with cond := some uptoSmall }

/-- 'quashlaw16.ProgNames', WHERE WHAT IT READS IS OF BULK AT MOST 1048576: true; the input reads as it did. -/
def progNamesUptoRow : OpenClaim := { program := "ythbcbjkgjgmegaagreat", sum := "a0ca0ef30e977b44a626f8cff5255e54b7ddc81f6342f82d61bd23c3dfc15474", func := "quash/quashlaw16.ProgNames", spec := "progNames", unfollowed := true, recurses := true, apart := false, narrowed := true }
def ProgNamesUptoSaid : Prop := progNamesUptoRow.holds Tryz.pinned (OpenSpec.upto progNamesSpec)

/-- 'quashlaw16.ProgNews', WHERE WHAT IT READS IS OF BULK AT MOST 1048576: true; the input reads as it did. -/
def progNewsUptoRow : OpenClaim := { program := "ythbcbjkgjgmegaagreat", sum := "a0ca0ef30e977b44a626f8cff5255e54b7ddc81f6342f82d61bd23c3dfc15474", func := "quash/quashlaw16.ProgNews", spec := "progNews", unfollowed := true, recurses := true, apart := false, narrowed := true }
def ProgNewsUptoSaid : Prop := progNewsUptoRow.holds Tryz.pinned (OpenSpec.upto progNewsSpec)

/-- 'quashlaw16.ProgPlays', WHERE WHAT IT READS IS OF BULK AT MOST 1048576: true; the input reads as it did. -/
def progPlaysUptoRow : OpenClaim := { program := "ythbcbjkgjgmegaagreat", sum := "a0ca0ef30e977b44a626f8cff5255e54b7ddc81f6342f82d61bd23c3dfc15474", func := "quash/quashlaw16.ProgPlays", spec := "progPlays", unfollowed := true, recurses := true, apart := false, narrowed := true }
def ProgPlaysUptoSaid : Prop := progPlaysUptoRow.holds Tryz.pinned (OpenSpec.upto progPlaysSpec)

/-- 'quashlaw16.ProgSafe', WHERE WHAT IT READS IS OF BULK AT MOST 1048576: true; the input reads as it did. -/
def progSafeUptoRow : OpenClaim := { program := "ythbcbjkgjgmegaagreat", sum := "a0ca0ef30e977b44a626f8cff5255e54b7ddc81f6342f82d61bd23c3dfc15474", func := "quash/quashlaw16.ProgSafe", spec := "progSafe", unfollowed := true, recurses := true, apart := false, narrowed := true }
def ProgSafeUptoSaid : Prop := progSafeUptoRow.holds Tryz.pinned (OpenSpec.upto progSafeSpec)

/-- 'quashlaw16.ProgAlone', WHERE WHAT IT READS IS OF BULK AT MOST 1048576: true; the input reads as it did. -/
def progAloneUptoRow : OpenClaim := { program := "ythbcbjkgjgmegaagreat", sum := "a0ca0ef30e977b44a626f8cff5255e54b7ddc81f6342f82d61bd23c3dfc15474", func := "quash/quashlaw16.ProgAlone", spec := "progAlone", unfollowed := true, recurses := true, apart := false, narrowed := true }
def ProgAloneUptoSaid : Prop := progAloneUptoRow.holds Tryz.pinned (OpenSpec.upto progAloneSpec)

/-- 'quashlaw16.ProgWhole', WHERE WHAT IT READS IS OF BULK AT MOST 1048576: true; the input reads as it did. -/
def progWholeUptoRow : OpenClaim := { program := "ythbcbjkgjgmegaagreat", sum := "a0ca0ef30e977b44a626f8cff5255e54b7ddc81f6342f82d61bd23c3dfc15474", func := "quash/quashlaw16.ProgWhole", spec := "progWhole", unfollowed := true, recurses := true, apart := false, narrowed := true }
def ProgWholeUptoSaid : Prop := progWholeUptoRow.holds Tryz.pinned (OpenSpec.upto progWholeSpec)

end Rows
end Go.Proofs.YthbcbjkgjgmegaaGreat
