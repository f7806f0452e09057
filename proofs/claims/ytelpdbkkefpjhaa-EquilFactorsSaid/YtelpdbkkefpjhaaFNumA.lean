/-
What the functions on one float come to that use no memory: Same, Parts, Len64, digits, cut, join, Up, Down. Conditions: the words are below 2^64.
-/
import Derived.Test.YtelpdbkkefpjhaaRows
import Derived.Test.YtelpdbkkefpjhaaFFlB
import Derived.Test.YtelpdbkkefpjhaaFBits
import Derived.WalkKit
import Derived.WalkLawsBesides
import Derived.WalkSpells
import Derived.LoopTactic
import Derived.Outline
import Derived.Lib.Hide
import Derived.Laws.Externs
import Derived.Laws.BitsAllLaws
set_option linter.unusedVariables false
namespace Go.Proofs.Ytelpdbkkefpjhaa
open Go.RowKit

theorem run_bits (b : Nat) (w : World) : (callFunc 50 #[.float .f64 b]).run Try.prog w = .ok (.value (.int .u64 (b : Int))) w := by kernel_rfl
theorem run_frombits (n : Int) (w : World) : (callFunc 49 #[.int .u64 n]).run Try.prog w = .ok (.value (.float .f64 n.toNat)) w := by kernel_rfl
attribute [go_sem] run_bits
attribute [go_sem] run_frombits

theorem ret_bool {a b : Bool} (h : a = b) : Ending.returned (.bool a) = .returned (.bool b) := by rw [h]
theorem ret_int {k : IntKind} {a b : Int} (h : a = b) : Ending.returned (.int k a) = .returned (.int k b) := by rw [h]

theorem key_zero : Fl.key 0 = 0 := by decide
theorem rung_zero : Fl.rung 0 = 0 := by decide
theorem eql_zero (b : Nat) : (FloatKind.f64.format.order b 0 == some .eq) = decide (Fl.rung b = 0) := by
  by_cases h : Fl.INF < Fl.rung b
  · rw [Fl.cmp_nan (.inl h)]
    have := Fl.INF_val
    exact (decide_eq_false (by omega)).symm
  · rw [Fl.eql_of (by omega) (by rw [rung_zero]; decide), key_zero, Bool.eq_iff_iff]
    simp only [decide_eq_true_eq]
    unfold Fl.key; split <;> omega
/-- The two are the same number: by their bits, or both no number. -/
def sameB (a b : Nat) : Bool := decide (a = b) || Fl.nan a && Fl.nan b

/-- The kind of a word: 0 finite, 1 infinite, 2 no number. -/
def kindOf (b : Nat) : Int := if Fl.rung b < Fl.INF then 0 else if Fl.rung b = Fl.INF then 1 else 2
def partM (b : Nat) : Int := if Fl.rung b < Fl.INF then (Fl.pm b : Int) else 0
def partE (b : Nat) : Int := if Fl.rung b < Fl.INF then (Fl.pe b : Int) - 1074 else 0

theorem results_tmp4 {fn : Func} {t u v x : Tmp} (h : fn.results = #[.tmp t, .tmp u, .tmp v, .tmp x]) (tmps : Array Value) (P : Program) (w : World) :
    (results fn tmps).run P w = .ok (.tuple #[tmps.getD t undef, tmps.getD u undef, tmps.getD v undef, tmps.getD x undef]) w := by simp [results, h]
theorem ret_parts {s s' : Bool} {m m' e e' k k' : Int} (h1 : s = s') (h2 : m = m') (h3 : e = e') (h4 : k = k') :
    Ending.returned (.tuple #[.bool s, .int .u64 m, .int .i64 e, .int .i64 k]) = .returned (.tuple #[.bool s', .int .u64 m', .int .i64 e', .int .i64 k']) := by rw [h1, h2, h3, h4]
theorem sg_walk {b : Nat} (hb : b < 18446744073709551616) : ((b : Int) / 9223372036854775808 == 1) = Fl.sg b := by
  unfold Fl.sg
  rw [Bool.eq_iff_iff, beq_iff_eq, beq_iff_eq]; omega

theorem rung_def (b : Nat) : Fl.rung b = b % 9223372036854775808 := rfl
theorem pm_def (b : Nat) : Fl.pm b = if Fl.rung b < 4503599627370496 then Fl.rung b else 4503599627370496 + Fl.rung b % 4503599627370496 := rfl
theorem pe_def (b : Nat) : Fl.pe b = if Fl.rung b < 4503599627370496 then 0 else Fl.rung b / 4503599627370496 - 1 := rfl

theorem parts_any (b : Nat) (w : World) (hb : b < 18446744073709551616) :
    Calls Try.prog 35 #[.float .f64 b] w fun e w' => e = .returned (.tuple #[.bool (Fl.sg b), .int .u64 (partM b), .int .i64 (partE b), .int .i64 (kindOf b)]) ∧ w = w' := by
  go_enter Try.func35, Try.ntmps35
  go_wp2
  all_goals
    refine bodyPost_ret (results_tmp4 rfl _ _ _) rfl ?_
    have h1 := rung_def b
    have h2 := Fl.INF_val
    have h3 := pm_def b
    have h4 := pe_def b
    refine ⟨ret_parts (sg_walk hb) ?_ ?_ ?_, rfl⟩
    all_goals simp only [beq_iff_eq, beq_eq_false_iff_ne, ne_eq] at *
    · simp only [partM]
      split
      · rw [h3]; split <;> omega
      · first | rfl | omega
    · simp only [partE]; split
      · rw [h4]; split <;> omega
      · first | rfl | omega
    · simp only [kindOf]; (repeat' split) <;> first | rfl | omega
end Go.Proofs.Ytelpdbkkefpjhaa
