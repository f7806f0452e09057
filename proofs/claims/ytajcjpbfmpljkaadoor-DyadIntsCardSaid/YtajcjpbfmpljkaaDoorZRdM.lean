/-
The document's Mul. Conditions: the numbers have at most 2^29 digits, within 2^30 places.
-/
import Derived.Test.YtajcjpbfmpljkaaDoorZRdI
import Derived.Test.YtajcjpbfmpljkaaDoorZRdR
import Derived.Test.YtajcjpbfmpljkaaDoorZRdF
set_option linter.unusedVariables false
set_option linter.unusedSimpArgs false
set_option linter.unnecessarySimpa false
namespace Go.Proofs.YtajcjpbfmpljkaaDoor
open Go.RowKit
attribute [local go_sem ↓] Go.wp_at_zero Go.wp_at_succ

theorem bne_decide (a b : Bool) : (a != b) = decide (a ≠ b) := by cases a <;> cases b <;> rfl
end Go.Proofs.YtajcjpbfmpljkaaDoor
