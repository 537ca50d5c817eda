/- Package ghost: put, where a story ends. -/
import Derived.Test.YtnmlnjljmikmpaaGe

namespace Go.Proofs.Ytnmlnjljmikmpaa
open Go.RowKit Go.MapKept
open Go.Maps (Keyed)
set_option linter.unusedVariables false
set_option linter.unusedSimpArgs false
attribute [local go_sem ↓] Go.wp_at_zero Go.wp_at_succ

end Go.Proofs.Ytnmlnjljmikmpaa
