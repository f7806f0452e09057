/-
Meet, of one list. Conditions: as it says.
-/
import Derived.Test.YtbdlfaclakppgaaVwL
set_option linter.unusedVariables false
namespace Go.Proofs.Ytbdlfaclakppgaa
open Go.RowKit
attribute [local go_sem ↓] Go.wp_at_zero Go.wp_at_succ

end Go.Proofs.Ytbdlfaclakppgaa
