/- A spot is left. -/
import Derived.Test.YtdfefjalamohjabGreatDoorVfB
namespace Go.Proofs.YtdfefjalamohjabGreatDoor
open Go.RowKit
set_option linter.unusedVariables false
set_option linter.unusedSimpArgs false
attribute [local go_sem ↓] Go.wp_at_zero Go.wp_at_succ

section
variable {o w : World} {A : Wad} {L : List Ins} {vt : Value} {V : Vst}
end
end Go.Proofs.YtdfefjalamohjabGreatDoor
