/-
Alone, Long, List, Write: the document's vectors. Conditions: as each says.
-/
import Derived.Test.YtbjopdnfjjcpoaaVak
set_option linter.unusedVariables false
namespace Go.Proofs.Ytbjopdnfjjcpoaa
open Go.RowKit
attribute [local go_sem ↓] Go.wp_at_zero Go.wp_at_succ

/-- Is there more of a vector than is looked at? -/
def longB (n : Nat) (k : Int) : Bool := decide (1000 < n) || decide (60 < k)
end Go.Proofs.Ytbjopdnfjjcpoaa
/-
The document's Pair. Conditions: as each says.
-/
set_option linter.unusedVariables false
namespace Go.Proofs.Ytbjopdnfjjcpoaa
open Go.RowKit
attribute [local go_sem ↓] Go.wp_at_zero Go.wp_at_succ

theorem wrap4 {o o' a a' P Q : Nat} (hP : P < 1048576) (hQ : Q < 1048576) (h : o + a = P) (h' : o' + a' = Q) : wrap64 (a : Int) = (a : Int) ∧ wrap64 (a' : Int) = (a' : Int) ∧ wrap64 (P : Int) = (P : Int) ∧ wrap64 (Q : Int) = (Q : Int) :=
  ⟨wrap_id (by unfold I64; omega), wrap_id (by unfold I64; omega), wrap_id (by unfold I64; omega), wrap_id (by unfold I64; omega)⟩
end Go.Proofs.Ytbjopdnfjjcpoaa
