/-
Vectors: places, and vectors that meet. Conditions: as each says.
-/
import Derived.Test.YtbjopdnfjjcpoaaSt
set_option linter.unusedVariables false
namespace Go.Proofs.Ytbjopdnfjjcpoaa
open Go.RowKit
attribute [local go_sem ↓] Go.wp_at_zero Go.wp_at_succ

/-- Does a number of the vector stand at place p? -/
def standsB (off k inc p : Int) : Bool := decide (off ≤ p ∧ (p - off) % inc = 0 ∧ (p - off) / inc < k)

end Go.Proofs.Ytbjopdnfjjcpoaa
