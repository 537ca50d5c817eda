/-
  No cell of these rows narrows 'for every input' (looked for: loops, veiled, ifaces, maps, wideKeys, modest, calm, conditions, laid).
  DERIVED. THE GIVEN ROWS OF THIS SEAT. 3 by the template 'for every input the law returns true; each argument reads behind the call as it read before'; 0 by the template 'total and deterministic' (their statements: YtpojkkdmlpjfeaaTotals.lean).
  GIVEN WITH THE SEED: the statements are not yours to turn. If you find one false, say at which input.
  Laid BY PROGRAM, IN A SANDBOX (cutbox-rows.mjs): the forced cells as the released guide's own fill.sh prints them over the translation e8ca5c7595097f7e… (all of the seat's roots in one cut). By AI agents, Wed Nov 11 2026. No macro, syntax, notation, axiom, sorry.
-/
import Derived.Test.YtpojkkdmlpjfeaaChecked
import GoSem.Claim
import GoSem.ClaimJoined
import GoSem.ClaimMapViews
import Derived.JoinedTies
import Derived.KernelRfl
namespace Go.Proofs.Ytpojkkdmlpjfeaa
/- THE CELL 'sum', in the pinned program and in every row, IS THE sha256 OF THE DUMP (.gsa) THAT YtpojkkdmlpjfeaaProg.lean LOADS. Nothing in Lean hashes anything: it is a label: what it is worth is what the hold of that sum in a sandbox is worth. -/
noncomputable def Try.pinned : Pinned := { name := "ytpojkkdmlpjfeaa", sum := "e8ca5c7595097f7ecab30e254552db68e430dea51d376e6ce07fd6ab3ffa1d16", checked := Try.checked }
namespace Rows
def none {H : Type} : Left H := { results := [], args := [] }

/-- 'quashlaw12.LookFinds': WHATEVER THE INPUT: true; the input reads as it did. -/
def lookFindsSpec : ChangeSpec := { name := "lookFinds", fn := fun _ => fun
  | [d1, d2, d3] => { results := [.lit (.bool true)], args := [d1, d2, d3] }
  | _ => none }
def lookFindsRow : OpenClaim := { program := "ytpojkkdmlpjfeaa", sum := "e8ca5c7595097f7ecab30e254552db68e430dea51d376e6ce07fd6ab3ffa1d16", func := "quash/quashlaw12.LookFinds", spec := "lookFinds", unfollowed := true, recurses := true, apart := false }
def LookFindsSaid : Prop := lookFindsRow.holds Try.pinned (OpenSpec.ofChange lookFindsSpec)

/-- ITS FALSE NEIGHBOUR: 'it returns false'. Refute it at one input. -/
def lookFindsWrong : ChangeSpec := { name := "lookFinds", fn := fun _ => fun
  | [d1, d2, d3] => { results := [.lit (.bool false)], args := [d1, d2, d3] }
  | _ => none }
def LookFindsWrongFalsely : Prop := lookFindsRow.holds Try.pinned (OpenSpec.ofChange lookFindsWrong)

/-- 'quashlaw12.LookMisses': WHATEVER THE INPUT: true; the input reads as it did. -/
def lookMissesSpec : ChangeSpec := { name := "lookMisses", fn := fun _ => fun
  | [d1, d2, d3] => { results := [.lit (.bool true)], args := [d1, d2, d3] }
  | _ => none }
def lookMissesRow : OpenClaim := { program := "ytpojkkdmlpjfeaa", sum := "e8ca5c7595097f7ecab30e254552db68e430dea51d376e6ce07fd6ab3ffa1d16", func := "quash/quashlaw12.LookMisses", spec := "lookMisses", unfollowed := true, recurses := true, apart := false }
def LookMissesSaid : Prop := lookMissesRow.holds Try.pinned (OpenSpec.ofChange lookMissesSpec)

/-- ITS FALSE NEIGHBOUR: 'it returns false'. Refute it at one input. -/
def lookMissesWrong : ChangeSpec := { name := "lookMisses", fn := fun _ => fun
  | [d1, d2, d3] => { results := [.lit (.bool false)], args := [d1, d2, d3] }
  | _ => none }
def LookMissesWrongFalsely : Prop := lookMissesRow.holds Try.pinned (OpenSpec.ofChange lookMissesWrong)

/-- 'quashlaw12.LookDooms': WHATEVER THE INPUT: true; the input reads as it did. -/
def lookDoomsSpec : ChangeSpec := { name := "lookDooms", fn := fun _ => fun
  | [d1, d2, d3] => { results := [.lit (.bool true)], args := [d1, d2, d3] }
  | _ => none }
def lookDoomsRow : OpenClaim := { program := "ytpojkkdmlpjfeaa", sum := "e8ca5c7595097f7ecab30e254552db68e430dea51d376e6ce07fd6ab3ffa1d16", func := "quash/quashlaw12.LookDooms", spec := "lookDooms", unfollowed := true, recurses := true, apart := false }
def LookDoomsSaid : Prop := lookDoomsRow.holds Try.pinned (OpenSpec.ofChange lookDoomsSpec)

/-- ITS FALSE NEIGHBOUR: 'it returns false'. Refute it at one input. -/
def lookDoomsWrong : ChangeSpec := { name := "lookDooms", fn := fun _ => fun
  | [d1, d2, d3] => { results := [.lit (.bool false)], args := [d1, d2, d3] }
  | _ => none }
def LookDoomsWrongFalsely : Prop := lookDoomsRow.holds Try.pinned (OpenSpec.ofChange lookDoomsWrong)

/- THE SECOND FORM. 'bulk': how many values and letters a reading holds, each counted each time it is reached (what is shared counts as often as it is met; a slice's spare places count too). A statement '..UptoSaid' is the law's where the arguments, and the package variables that the reading takes, are together of bulk at most 1048576: NARROWER than '..Said'. Prove '..Said' where nothing that the law and all that it calls make is longer than what came in: it says more and counts as full. Else prove '..UptoSaid'. A law counts once. -/
mutual
def uptoBulk {H : Type} : DataW H → Nat
  | .lit (.string bytes) => bytes.length + 1
  | .lit _ => 1
  | .nil => 1
  | .ptr d => uptoBulk d + 1
  | .slice elems spare => uptoBulkAll elems + uptoBulkAll spare + 1
  | .agg parts => uptoBulkAll parts + 1
  | .iface _ d => uptoBulk d + 1
  | .map entries => uptoBulkEntries entries + 1
  | .held _ => 1
def uptoBulkAll {H : Type} : List (DataW H) → Nat
  | [] => 0
  | d :: r => uptoBulk d + uptoBulkAll r
def uptoBulkEntries {H : Type} : List (Lit × DataW H) → Nat
  | [] => 0
  | x :: r => uptoBulkEntry x + uptoBulkEntries r
def uptoBulkEntry {H : Type} : Lit × DataW H → Nat
  | (.string bytes, d) => bytes.length + uptoBulk d + 1
  | (_, d) => uptoBulk d + 1
 end
def uptoSmall : (H : Type) → List (DataW H) → Bool := fun _ ds => decide (uptoBulkAll ds ≤ 1048576)
def OpenSpec.upto (s : _root_.Go.ChangeSpec) : _root_.Go.OpenSpec := { _root_.Go.OpenSpec.ofChange s with cond := some uptoSmall }

/-- 'quashlaw12.LookFinds', WHERE WHAT IT READS IS OF BULK AT MOST 1048576: true; the input reads as it did. -/
def lookFindsUptoRow : OpenClaim := { program := "ytpojkkdmlpjfeaa", sum := "e8ca5c7595097f7ecab30e254552db68e430dea51d376e6ce07fd6ab3ffa1d16", func := "quash/quashlaw12.LookFinds", spec := "lookFinds", unfollowed := true, recurses := true, apart := false, narrowed := true }
def LookFindsUptoSaid : Prop := lookFindsUptoRow.holds Try.pinned (OpenSpec.upto lookFindsSpec)

/-- 'quashlaw12.LookMisses', WHERE WHAT IT READS IS OF BULK AT MOST 1048576: true; the input reads as it did. -/
def lookMissesUptoRow : OpenClaim := { program := "ytpojkkdmlpjfeaa", sum := "e8ca5c7595097f7ecab30e254552db68e430dea51d376e6ce07fd6ab3ffa1d16", func := "quash/quashlaw12.LookMisses", spec := "lookMisses", unfollowed := true, recurses := true, apart := false, narrowed := true }
def LookMissesUptoSaid : Prop := lookMissesUptoRow.holds Try.pinned (OpenSpec.upto lookMissesSpec)

/-- 'quashlaw12.LookDooms', WHERE WHAT IT READS IS OF BULK AT MOST 1048576: true; the input reads as it did. -/
def lookDoomsUptoRow : OpenClaim := { program := "ytpojkkdmlpjfeaa", sum := "e8ca5c7595097f7ecab30e254552db68e430dea51d376e6ce07fd6ab3ffa1d16", func := "quash/quashlaw12.LookDooms", spec := "lookDooms", unfollowed := true, recurses := true, apart := false, narrowed := true }
def LookDoomsUptoSaid : Prop := lookDoomsUptoRow.holds Try.pinned (OpenSpec.upto lookDoomsSpec)

end Rows
end Go.Proofs.Ytpojkkdmlpjfeaa
