/-
Pair: which error, or none. Conditions: the vectors' lists are the call's own, or the caller's.
-/
import Derived.Test.YtbjopdnfjjcpoaaMvB
set_option linter.unusedVariables false
namespace Go.Proofs.Ytbjopdnfjjcpoaa
open Go.RowKit
attribute [local go_sem ↓] Go.wp_at_zero Go.wp_at_succ

/-- Which error, or 0. -/
def pairI (same : Bool) (n : Nat) (off k inc : Int) (n' : Nat) (off' k' inc' : Int) : Int :=
  if vecB n off k inc then (if vecB n' off' k' inc' then (if k = k' then (if same && metB off.toNat inc.toNat off'.toNat inc'.toNat k.toNat then 2 else 0) else 3) else 1) else 1

end Go.Proofs.Ytbjopdnfjjcpoaa
