/-
A number's text, by its odd part's binary digits. Conditions: none.
-/
import Derived.Test.YtdokpnfmmbkjfaaGreatDoorZRdU
import Derived.Test.YtdokpnfmmbkjfaaGreatDoorGn
set_option linter.unusedVariables false
namespace Go.Proofs.YtdokpnfmmbkjfaaGreatDoor

/-- The text of a number, by its odd part's binary digits. -/
theorem txt_odd {neg : Bool} {b : List Nat} {e : Int} (hT : Two b) (h1 : b.head? = some 1) (h2 : b.getLast? = some 1) :
    txt (dy (sgd neg (hv b)) e) = (if neg = true then [45] else []) ++ hexN (hv b) ++ [112] ++ Lib.itoa e := by
  have ho := hv_odd h2
  have hm : sgd neg (hv b) % 2 = 1 := by unfold sgd; split <;> omega
  unfold txt
  rw [mant_dy _ _ hm, expo_dy _ _ hm]
  have h0 : sgd neg (hv b) ≠ 0 := by omega
  rw [if_neg h0, show (sgd neg (hv b)).natAbs = hv b by unfold sgd; split <;> simp]
  congr 3
  unfold ng sgd
  cases neg
  · simp
  · have : hv b ≠ 0 := by omega
    simp; omega
end Go.Proofs.YtdokpnfmmbkjfaaGreatDoor
