/-
Ger: what is handed in for each number; who meets. Conditions: as each says.
-/
import Derived.Test.YtelpdbkkefpjhaaZKGrA
import Derived.Test.YtelpdbkkefpjhaaKFa
import Derived.Test.YtelpdbkkefpjhaaWKg
set_option linter.unusedVariables false
set_option linter.unusedSimpArgs false
set_option linter.unnecessarySimpa false
namespace Go.Proofs.Ytelpdbkkefpjhaa
open Go.RowKit
attribute [local go_sem ↓] Go.wp_at_zero Go.wp_at_succ

theorem gr_wds {l : List Nat} (h : Wds l) (k : Nat) : l.getD k 0 < 18446744073709551616 := by
  rcases Nat.lt_or_ge k l.length with h1 | h1
  · rw [getD_of_lt h1]; exact h.at_ k h1
  · rw [getD_of_le h1]; omega
end Go.Proofs.Ytelpdbkkefpjhaa
/-
Ger: the program's Ger, why not, and what it makes. Conditions: as each says.
-/
set_option linter.unusedVariables false
set_option linter.unusedSimpArgs false
set_option linter.unnecessarySimpa false
namespace Go.Proofs.Ytelpdbkkefpjhaa
open Go.RowKit
attribute [local go_sem ↓] Go.wp_at_zero Go.wp_at_succ

theorem cells1g {w : World} {g : Nat} {t : TypeId} {v : Value} (h : Blk w g t #[v]) : w.cell? ⟨g, 0, none⟩ = some v ∧ True := ⟨h.cell 0, trivial⟩
end Go.Proofs.Ytelpdbkkefpjhaa
