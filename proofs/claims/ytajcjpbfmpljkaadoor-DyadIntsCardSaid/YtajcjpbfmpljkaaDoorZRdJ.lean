/-
The document's ends, size. Conditions: the numbers lie within 2^40 places.
-/
import Derived.Test.YtajcjpbfmpljkaaDoorZRdI
import Derived.Test.YtajcjpbfmpljkaaDoorGe
set_option linter.unusedVariables false
set_option linter.unusedSimpArgs false
set_option linter.unnecessarySimpa false
namespace Go.Proofs.YtajcjpbfmpljkaaDoor
open Go.RowKit
attribute [local go_sem ↓] Go.wp_at_zero Go.wp_at_succ

end Go.Proofs.YtajcjpbfmpljkaaDoor
