/-
Meet, of one list. Conditions: as it says.
-/
import Derived.Test.YtbjopdnfjjcpoaaZVwL
set_option linter.unusedVariables false
namespace Go.Proofs.Ytbjopdnfjjcpoaa
open Go.RowKit
attribute [local go_sem ↓] Go.wp_at_zero Go.wp_at_succ

end Go.Proofs.Ytbjopdnfjjcpoaa
