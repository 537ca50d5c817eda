/- Rows of Hd: Load. -/
import Derived.Test.YtpjhljfcoejndaaGreatHd
import Derived.Test.YtpjhljfcoejndaaGreatNote
namespace Go.Proofs.YtpjhljfcoejndaaGreat
open Go.RowKit
set_option linter.unusedVariables false
set_option linter.unusedSimpArgs false
attribute [local go_sem ↓] Go.wp_at_zero Go.wp_at_succ


end Go.Proofs.YtpjhljfcoejndaaGreat
