/-
Alone, Long, List, Write: the document's vectors. Conditions: as each says.
-/
import Derived.Test.YtbjopdnfjjcpoaaMvK
set_option linter.unusedVariables false
namespace Go.Proofs.Ytbjopdnfjjcpoaa
open Go.RowKit
attribute [local go_sem ↓] Go.wp_at_zero Go.wp_at_succ

/-- Is there more of a vector than is looked at? -/
def longB (n : Nat) (k : Int) : Bool := decide (1000 < n) || decide (60 < k)
end Go.Proofs.Ytbjopdnfjjcpoaa
