/- A space notes an event. -/
import Derived.Test.YtajfjkhbimehbaaSpC
namespace Go.Proofs.Ytajfjkhbimehbaa
open Go.RowKit
set_option linter.unusedVariables false
set_option linter.unusedSimpArgs false
attribute [local go_sem ↓] Go.wp_at_zero Go.wp_at_succ

end Go.Proofs.Ytajfjkhbimehbaa
