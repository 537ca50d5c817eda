/-
  No cell of these rows narrows 'for every input' (looked for: loops, veiled, ifaces, maps, wideKeys, modest, calm, conditions, laid).
  DERIVED. THE GIVEN ROWS OF THIS SEAT. 5 by the template 'for every input the law returns true; each argument reads behind the call as it read before'; 0 by the template 'total and deterministic' (their statements: YtnchfomoaonbkabGreatTotals.lean).
  GIVEN WITH THE SEED: the statements are not yours to turn. If you find one false, say at which input.
  Laid BY PROGRAM, IN A SANDBOX (cutbox-rows.mjs): the forced cells as the released guide's own fill.sh prints them over the translation 921d933edaea27c5… (all of the seat's roots in one cut). By AI agents, Wed Nov 11 2026. No macro, syntax, notation, axiom, sorry.
-/
import Derived.Test.YtnchfomoaonbkabGreatChecked
import GoSem.Claim
import GoSem.ClaimJoined
import GoSem.ClaimMapViews
import Derived.JoinedTies
import Derived.KernelRfl
namespace Go.Proofs.YtnchfomoaonbkabGreat
/- THE CELL 'sum', in the pinned program and in every row, IS THE sha256 OF THE DUMP (.gsa) THAT YtnchfomoaonbkabGreatProg.lean LOADS. Nothing in Lean hashes anything: it is a label: what it is worth is what the hold of that sum in a sandbox is worth. -/
noncomputable def Tryz.pinned : Pinned := { name := "ytnchfomoaonbkabgreat", sum := "921d933edaea27c50de184e526ec617f340da2eb0c3119d2066009583fa135fc", checked := Tryz.checked }
namespace Rows
def none {H : Type} : Left H := { results := [], args := [] }

/-- 'quashlaw14.TxAlone': WHATEVER THE INPUT: true; the input reads as it did. -/
def txAloneSpec : ChangeSpec := { name := "txAlone", fn := fun _ => fun
  | [d1, d2, d3] => { results := [.lit (.bool true)], args := [d1, d2, d3] }
  | _ => none }
def txAloneRow : OpenClaim := { program := "ytnchfomoaonbkabgreat", sum := "921d933edaea27c50de184e526ec617f340da2eb0c3119d2066009583fa135fc", func := "quash/quashlaw14.TxAlone", spec := "txAlone", unfollowed := true, recurses := true, apart := false }
def TxAloneSaid : Prop := txAloneRow.holds Tryz.pinned (OpenSpec.ofChange txAloneSpec)

/-- ITS FALSE NEIGHBOUR: 'it returns false'. Refute it at one input. -/
def txAloneWrong : ChangeSpec := { name := "txAlone", fn := fun _ => fun
  | [d1, d2, d3] => { results := [.lit (.bool false)], args := [d1, d2, d3] }
  | _ => none }
def TxAloneWrongFalsely : Prop := txAloneRow.holds Tryz.pinned (OpenSpec.ofChange txAloneWrong)

/-- 'quashlaw14.TxOpaque': WHATEVER THE INPUT: true; the input reads as it did. -/
def txOpaqueSpec : ChangeSpec := { name := "txOpaque", fn := fun _ => fun
  | [d1, d2, d3] => { results := [.lit (.bool true)], args := [d1, d2, d3] }
  | _ => none }
def txOpaqueRow : OpenClaim := { program := "ytnchfomoaonbkabgreat", sum := "921d933edaea27c50de184e526ec617f340da2eb0c3119d2066009583fa135fc", func := "quash/quashlaw14.TxOpaque", spec := "txOpaque", unfollowed := true, recurses := true, apart := false }
def TxOpaqueSaid : Prop := txOpaqueRow.holds Tryz.pinned (OpenSpec.ofChange txOpaqueSpec)

/-- ITS FALSE NEIGHBOUR: 'it returns false'. Refute it at one input. -/
def txOpaqueWrong : ChangeSpec := { name := "txOpaque", fn := fun _ => fun
  | [d1, d2, d3] => { results := [.lit (.bool false)], args := [d1, d2, d3] }
  | _ => none }
def TxOpaqueWrongFalsely : Prop := txOpaqueRow.holds Tryz.pinned (OpenSpec.ofChange txOpaqueWrong)

/-- 'quashlaw14.TxReal': WHATEVER THE INPUT: true; the input reads as it did. -/
def txRealSpec : ChangeSpec := { name := "txReal", fn := fun _ => fun
  | [d1, d2, d3] => { results := [.lit (.bool true)], args := [d1, d2, d3] }
  | _ => none }
def txRealRow : OpenClaim := { program := "ytnchfomoaonbkabgreat", sum := "921d933edaea27c50de184e526ec617f340da2eb0c3119d2066009583fa135fc", func := "quash/quashlaw14.TxReal", spec := "txReal", unfollowed := true, recurses := true, apart := false }
def TxRealSaid : Prop := txRealRow.holds Tryz.pinned (OpenSpec.ofChange txRealSpec)

/-- ITS FALSE NEIGHBOUR: 'it returns false'. Refute it at one input. -/
def txRealWrong : ChangeSpec := { name := "txReal", fn := fun _ => fun
  | [d1, d2, d3] => { results := [.lit (.bool false)], args := [d1, d2, d3] }
  | _ => none }
def TxRealWrongFalsely : Prop := txRealRow.holds Tryz.pinned (OpenSpec.ofChange txRealWrong)

/-- 'quashlaw14.TxSlots': WHATEVER THE INPUT: true; the input reads as it did. -/
def txSlotsSpec : ChangeSpec := { name := "txSlots", fn := fun _ => fun
  | [d1, d2, d3] => { results := [.lit (.bool true)], args := [d1, d2, d3] }
  | _ => none }
def txSlotsRow : OpenClaim := { program := "ytnchfomoaonbkabgreat", sum := "921d933edaea27c50de184e526ec617f340da2eb0c3119d2066009583fa135fc", func := "quash/quashlaw14.TxSlots", spec := "txSlots", unfollowed := true, recurses := true, apart := false }
def TxSlotsSaid : Prop := txSlotsRow.holds Tryz.pinned (OpenSpec.ofChange txSlotsSpec)

/-- ITS FALSE NEIGHBOUR: 'it returns false'. Refute it at one input. -/
def txSlotsWrong : ChangeSpec := { name := "txSlots", fn := fun _ => fun
  | [d1, d2, d3] => { results := [.lit (.bool false)], args := [d1, d2, d3] }
  | _ => none }
def TxSlotsWrongFalsely : Prop := txSlotsRow.holds Tryz.pinned (OpenSpec.ofChange txSlotsWrong)

/-- 'quashlaw14.TxEnds': WHATEVER THE INPUT: true; the input reads as it did. -/
def txEndsSpec : ChangeSpec := { name := "txEnds", fn := fun _ => fun
  | [d1, d2, d3] => { results := [.lit (.bool true)], args := [d1, d2, d3] }
  | _ => none }
def txEndsRow : OpenClaim := { program := "ytnchfomoaonbkabgreat", sum := "921d933edaea27c50de184e526ec617f340da2eb0c3119d2066009583fa135fc", func := "quash/quashlaw14.TxEnds", spec := "txEnds", unfollowed := true, recurses := true, apart := false }
def TxEndsSaid : Prop := txEndsRow.holds Tryz.pinned (OpenSpec.ofChange txEndsSpec)

/-- ITS FALSE NEIGHBOUR: 'it returns false'. Refute it at one input. -/
def txEndsWrong : ChangeSpec := { name := "txEnds", fn := fun _ => fun
  | [d1, d2, d3] => { results := [.lit (.bool false)], args := [d1, d2, d3] }
  | _ => none }
def TxEndsWrongFalsely : Prop := txEndsRow.holds Tryz.pinned (OpenSpec.ofChange txEndsWrong)

/- THE SECOND FORM. 'bulk': how many values and letters a reading holds, each counted each time it is reached (what is shared counts as often as it is met; a slice's spare places count too). A statement '..UptoSaid' is the law's where the arguments, and the package variables that the reading takes, are together of bulk at most 1048576: NARROWER than '..Said'. Prove '..Said' where nothing that the law and all that it calls make is longer than what came in: it says more and counts as full. Else prove '..UptoSaid'. A law counts once. -/
mutual
def uptoBulk {H : Type} : DataW H → Nat
  | .lit (.string bytes) => bytes.length + 1
  | .lit _ => 1
  | .nil => 1
  | .ptr d => uptoBulk d + 1
  | .slice elems spare => uptoBulkAll elems + uptoBulkAll spare + 1
  | .agg parts => uptoBulkAll parts + 1
  | .iface _ d => uptoBulk d + 1
  | .map entries => uptoBulkEntries entries + 1
  | .held _ => 1
def uptoBulkAll {H : Type} : List (DataW H) → Nat
  | [] => 0
  | d :: r => uptoBulk d + uptoBulkAll r
def uptoBulkEntries {H : Type} : List (Lit × DataW H) → Nat
  | [] => 0
  | x :: r => uptoBulkEntry x + uptoBulkEntries r
def uptoBulkEntry {H : Type} : Lit × DataW H → Nat
  | (.string bytes, d) => bytes.length + uptoBulk d + 1
  | (_, d) => uptoBulk d + 1
 end
def uptoSmall : (H : Type) → List (DataW H) → Bool := fun _ ds => decide (uptoBulkAll ds ≤ 1048576)
def OpenSpec.upto (s : _root_.Go.ChangeSpec) : _root_.Go.OpenSpec := { _root_.Go.OpenSpec.ofChange s with cond := some uptoSmall }

/-- 'quashlaw14.TxAlone', WHERE WHAT IT READS IS OF BULK AT MOST 1048576: true; the input reads as it did. -/
def txAloneUptoRow : OpenClaim := { program := "ytnchfomoaonbkabgreat", sum := "921d933edaea27c50de184e526ec617f340da2eb0c3119d2066009583fa135fc", func := "quash/quashlaw14.TxAlone", spec := "txAlone", unfollowed := true, recurses := true, apart := false, narrowed := true }
def TxAloneUptoSaid : Prop := txAloneUptoRow.holds Tryz.pinned (OpenSpec.upto txAloneSpec)

/-- 'quashlaw14.TxOpaque', WHERE WHAT IT READS IS OF BULK AT MOST 1048576: true; the input reads as it did. -/
def txOpaqueUptoRow : OpenClaim := { program := "ytnchfomoaonbkabgreat", sum := "921d933edaea27c50de184e526ec617f340da2eb0c3119d2066009583fa135fc", func := "quash/quashlaw14.TxOpaque", spec := "txOpaque", unfollowed := true, recurses := true, apart := false, narrowed := true }
def TxOpaqueUptoSaid : Prop := txOpaqueUptoRow.holds Tryz.pinned (OpenSpec.upto txOpaqueSpec)

/-- 'quashlaw14.TxReal', WHERE WHAT IT READS IS OF BULK AT MOST 1048576: true; the input reads as it did. -/
def txRealUptoRow : OpenClaim := { program := "ytnchfomoaonbkabgreat", sum := "921d933edaea27c50de184e526ec617f340da2eb0c3119d2066009583fa135fc", func := "quash/quashlaw14.TxReal", spec := "txReal", unfollowed := true, recurses := true, apart := false, narrowed := true }
def TxRealUptoSaid : Prop := txRealUptoRow.holds Tryz.pinned (OpenSpec.upto txRealSpec)

/-- 'quashlaw14.TxSlots', WHERE WHAT IT READS IS OF BULK AT MOST 1048576: true; the input reads as it did. -/
def txSlotsUptoRow : OpenClaim := { program := "ytnchfomoaonbkabgreat", sum := "921d933edaea27c50de184e526ec617f340da2eb0c3119d2066009583fa135fc", func := "quash/quashlaw14.TxSlots", spec := "txSlots", unfollowed := true, recurses := true, apart := false, narrowed := true }
def TxSlotsUptoSaid : Prop := txSlotsUptoRow.holds Tryz.pinned (OpenSpec.upto txSlotsSpec)

/-- 'quashlaw14.TxEnds', WHERE WHAT IT READS IS OF BULK AT MOST 1048576: true; the input reads as it did. -/
def txEndsUptoRow : OpenClaim := { program := "ytnchfomoaonbkabgreat", sum := "921d933edaea27c50de184e526ec617f340da2eb0c3119d2066009583fa135fc", func := "quash/quashlaw14.TxEnds", spec := "txEnds", unfollowed := true, recurses := true, apart := false, narrowed := true }
def TxEndsUptoSaid : Prop := txEndsUptoRow.holds Tryz.pinned (OpenSpec.upto txEndsSpec)

end Rows
end Go.Proofs.YtnchfomoaonbkabGreat
