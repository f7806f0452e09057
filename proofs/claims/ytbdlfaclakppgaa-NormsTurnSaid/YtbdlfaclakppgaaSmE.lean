/-
The example; Dot's errors. Conditions: as each says.
-/
import Derived.Test.YtbdlfaclakppgaaSmD
import Derived.Test.YtbdlfaclakppgaaMvO
set_option linter.unusedVariables false
set_option linter.unusedSimpArgs false
namespace Go.Proofs.Ytbdlfaclakppgaa
open Go.RowKit
attribute [local go_sem ↓] Go.wp_at_zero Go.wp_at_succ

/-- Why there is no sum of products. -/
def dotI (n : Nat) (off k inc : Int) (n' : Nat) (off' k' inc' : Int) : Int := if (vecB n off k inc && vecB n' off' k' inc') = true then (if k = k' then 0 else 3) else 1
/-- 1, 2, 3. -/
def ex1 : List Nat := [4607182418800017408, 4611686018427387904, 4613937818241073152]
/-- 4, 5, 6. -/
def ex2 : List Nat := [4616189618054758400, 4617315517961601024, 4618441417868443648]
theorem ex_most : mostI (lst ex1 0 1 3) = 2 := by decide +kernel
theorem ex_dot : dotF (lst ex1 0 1 3) (lst ex2 0 1 3) 3 = 4629700416936869888 := by decide +kernel
theorem ex_eq : (FloatKind.f64.format.order 4629700416936869888 4629700416936869888 == some .eq) = true := by decide +kernel
theorem ex1_wds : Wds ex1 := by intro b hb; simp [ex1] at hb; omega
theorem ex2_wds : Wds ex2 := by intro b hb; simp [ex2] at hb; omega
end Go.Proofs.Ytbdlfaclakppgaa
