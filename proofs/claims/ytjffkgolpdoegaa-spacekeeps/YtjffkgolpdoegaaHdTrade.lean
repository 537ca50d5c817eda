/- Rows of Hd: Trade. -/
import Derived.Test.YtjffkgolpdoegaaHd
import Derived.Test.YtjffkgolpdoegaaNote
namespace Go.Proofs.Ytjffkgolpdoegaa
open Go.RowKit
set_option linter.unusedVariables false
set_option linter.unusedSimpArgs false
attribute [local go_sem ↓] Go.wp_at_zero Go.wp_at_succ


end Go.Proofs.Ytjffkgolpdoegaa
