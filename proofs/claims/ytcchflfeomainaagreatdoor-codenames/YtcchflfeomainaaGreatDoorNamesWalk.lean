/- CodeNames, walked. -/
import Derived.Test.YtcchflfeomainaaGreatDoorUp
namespace Go.Proofs.YtcchflfeomainaaGreatDoor
open Go.RowKit
set_option linter.unusedVariables false
theorem names_walk (w : World) (hE : Env w) : Calls Tryz.prog 3 #[] w fun e w' => e = .returned (.bool true) ∧ Kept (fun _ => False) w w' := by
  have hA := awake_any w hE
  go_enter Tryz.func3, Tryz.ntmps3
  go_wp2_with (go_at_call 9; refine hA.mono ?_; rintro e w1 ⟨rfl, k1⟩)
  go_ret
  exact ⟨rfl, k1⟩
end Go.Proofs.YtcchflfeomainaaGreatDoor
