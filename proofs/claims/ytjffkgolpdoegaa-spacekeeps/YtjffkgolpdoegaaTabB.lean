/- The table's trade of a head, in one sentence; Word and Put. -/
import Derived.Test.YtjffkgolpdoegaaTab
import Derived.Test.YtjffkgolpdoegaaHdTrade
import Derived.Test.YtjffkgolpdoegaaHdHit
import Derived.Deep.RegionWith
namespace Go.Proofs.Ytjffkgolpdoegaa
open Go.RowKit
set_option linter.unusedVariables false
set_option linter.unusedSimpArgs false
attribute [local go_sem ↓] Go.wp_at_zero Go.wp_at_succ

def trDone (hs : List Hd) (k : Int) (x : Hd) : Bool := match headAt hs k with | none => false | some h => h.eq x
theorem trade_ways (hs : List Hd) (k : Int) (x y : Hd) (ref : Int) :
    (lookE hs k = 2 ∧ trDone hs k x = false ∧ (trOp x y ref).E hs k = 2) ∨ (lookE hs k = 0 ∧ trDone hs k x = true ∧ (trOp x y ref).E hs k = 0) ∨ (lookE hs k = 0 ∧ trDone hs k x = false ∧ (trOp x y ref).E hs k = ref) := by
  unfold lookE trDone HOp.E
  simp only [trOp, if_true]
  cases headAt hs k with
  | none => exact .inl ⟨rfl, rfl, rfl⟩
  | some h =>
    cases hx : h.eq x <;> simp [hx]

end Go.Proofs.Ytjffkgolpdoegaa

