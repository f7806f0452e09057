/-
What the functions on one float come to that use no memory: Same, Parts, Len64, digits, cut, join, Up, Down. Conditions: the words are below 2^64.
-/
import Derived.Test.YtelpdbkkefpjhaaRows
import Derived.Test.YtelpdbkkefpjhaaKFlB
import Derived.Test.YtelpdbkkefpjhaaKBits
import Derived.WalkKit
import Derived.WalkLawsBesides
import Derived.WalkSpells
import Derived.LoopTactic
import Derived.Outline
import Derived.Lib.Hide
import Derived.Laws.Externs
import Derived.Laws.BitsAllLaws
set_option linter.unusedVariables false
namespace Go.Proofs.Ytelpdbkkefpjhaa
open Go.RowKit

theorem run_bits (b : Nat) (w : World) : (callFunc 50 #[.float .f64 b]).run Try.prog w = .ok (.value (.int .u64 (b : Int))) w := by kernel_rfl
theorem run_frombits (n : Int) (w : World) : (callFunc 49 #[.int .u64 n]).run Try.prog w = .ok (.value (.float .f64 n.toNat)) w := by kernel_rfl
attribute [go_sem] run_bits
attribute [go_sem] run_frombits

theorem ret_float {a b : Nat} (h : a = b) : Ending.returned (.float .f64 a) = .returned (.float .f64 b) := by rw [h]
theorem ret_bool {a b : Bool} (h : a = b) : Ending.returned (.bool a) = .returned (.bool b) := by rw [h]
theorem ret_int {k : IntKind} {a b : Int} (h : a = b) : Ending.returned (.int k a) = .returned (.int k b) := by rw [h]

theorem key_zero : Fl.key 0 = 0 := by decide
theorem rung_zero : Fl.rung 0 = 0 := by decide
theorem eql_zero (b : Nat) : (FloatKind.f64.format.order b 0 == some .eq) = decide (Fl.rung b = 0) := by
  by_cases h : Fl.INF < Fl.rung b
  · rw [Fl.cmp_nan (.inl h)]
    have := Fl.INF_val
    exact (decide_eq_false (by omega)).symm
  · rw [Fl.eql_of (by omega) (by rw [rung_zero]; decide), key_zero, Bool.eq_iff_iff]
    simp only [decide_eq_true_eq]
    unfold Fl.key; split <;> omega
/-- The two are the same number: by their bits, or both no number. -/
def sameB (a b : Nat) : Bool := decide (a = b) || Fl.nan a && Fl.nan b

theorem rung_def (b : Nat) : Fl.rung b = b % 9223372036854775808 := rfl
theorem pm_def (b : Nat) : Fl.pm b = if Fl.rung b < 4503599627370496 then Fl.rung b else 4503599627370496 + Fl.rung b % 4503599627370496 := rfl
theorem pe_def (b : Nat) : Fl.pe b = if Fl.rung b < 4503599627370496 then 0 else Fl.rung b / 4503599627370496 - 1 := rfl

end Go.Proofs.Ytelpdbkkefpjhaa
