/- Rows of Gt: Trade. -/
import Derived.Test.YtpjhljfcoejndaaGt
import Derived.Test.YtpjhljfcoejndaaNote
namespace Go.Proofs.Ytpjhljfcoejndaa
open Go.RowKit
set_option linter.unusedVariables false
set_option linter.unusedSimpArgs false
attribute [local go_sem ↓] Go.wp_at_zero Go.wp_at_succ


end Go.Proofs.Ytpjhljfcoejndaa
