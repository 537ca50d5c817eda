/- Rows of Gt: Load. -/
import Derived.Test.YtgjmamgohidbiabGreatGt
import Derived.Test.YtgjmamgohidbiabGreatNote
namespace Go.Proofs.YtgjmamgohidbiabGreat
open Go.RowKit
set_option linter.unusedVariables false
set_option linter.unusedSimpArgs false
attribute [local go_sem ↓] Go.wp_at_zero Go.wp_at_succ


end Go.Proofs.YtgjmamgohidbiabGreat
