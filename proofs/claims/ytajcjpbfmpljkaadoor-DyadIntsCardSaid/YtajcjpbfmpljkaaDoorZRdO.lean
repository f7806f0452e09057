/-
The document's Of, Sub, Cmp. Conditions: the numbers lie in few digits.
-/
import Derived.Test.YtajcjpbfmpljkaaDoorZRdN
import Derived.Test.YtajcjpbfmpljkaaDoorZFdy
set_option linter.unusedVariables false
set_option linter.unusedSimpArgs false
set_option linter.unnecessarySimpa false
namespace Go.Proofs.YtajcjpbfmpljkaaDoor
open Go.RowKit
attribute [local go_sem ↓] Go.wp_at_zero Go.wp_at_succ

theorem fitd_neg {d : Dyadic} (h : Fitd d) : Fitd (-d) := by
  obtain ⟨lo, k, m, h1, h2, rfl, h4⟩ := h
  exact ⟨lo, k, -m, h1, h2, by rw [dy_neg], by rwa [Int.natAbs_neg]⟩
theorem fitd_float {b : Nat} (h : Fl.rung b < Fl.INF) : Fitd (fdy b) := fitd_of (j := 2098) (val_lt_big 2098 rfl h) (by omega) (by omega)

end Go.Proofs.YtajcjpbfmpljkaaDoor
