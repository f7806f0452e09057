/-
Clone: a new matrix with a matrix' numbers. Conditions: the matrix is right, its list has at most 2^20 numbers, its sizes are at most 64.
-/
import Derived.Test.YtelpdbkkefpjhaaZFNm
import Derived.Test.YtelpdbkkefpjhaaFInv
import Derived.Laws.CopyRow
import Derived.Laws.IdiomCopy
set_option linter.unusedVariables false
set_option linter.unusedSimpArgs false
set_option linter.unnecessarySimpa false
namespace Go.Proofs.Ytelpdbkkefpjhaa
open Go.RowKit
attribute [local go_sem ↓] Go.wp_at_zero Go.wp_at_succ

theorem numbers_any (A : Option Addr) (n c : Nat) (l : List Nat) (o R C L N : Nat) (w : World) (hA : Row w A (f64s l)) (hl : l.length = n) (hnc : n ≤ c) (hn : n < 1048576) (hb : o < 9223372036854775808 ∧ R < 9223372036854775808 ∧ C < 9223372036854775808 ∧ L < 9223372036854775808) (hN : R * C = N) (hL : 1 ≤ L) (hR : R ≤ L) (hr : R = 0 ∨ C = 0 ∨ o + (C - 1) * L + (R - 1) < n) :
    Calls Try.prog 54 #[mat A n c o R C L] w fun e w' => Numd N (colsL l o R L C) w e w' := by
  have hgd := mat_right hL hR hr
  by_cases h0 : R = 0 ∨ C = 0
  · have hN0 : N = 0 := by rw [← hN]; rcases h0 with rfl | rfl <;> simp
    have hX : colsL l o R L C = [] := List.length_eq_zero_iff.1 (by rw [colsL_length, Nat.mul_comm, hN, hN0])
    refine (numbers_none A n c o R C L w hn hgd hb h0).mono ?_
    rintro e w' ⟨h1, h2⟩
    exact ⟨none, 0, by rw [h1, hN0], by rw [hX]; exact .inl rfl, (fun b o e => by cases e), h2⟩
  · have hrr : o + (C - 1) * L + (R - 1) < n := by omega
    cases A with
    | some a =>
      rcases hA with h | ⟨b, x, e, hc⟩
      · have : l = [] := by simpa [f64s] using h
        subst this
        simp at hl
        omega
      · obtain rfl : a = ⟨b, x, none⟩ := by simpa using e
        exact numbers_some b x n c l o R C L N w (.inr ⟨b, x, rfl, hc⟩) hl hnc hn hgd hb hN (by rw [← hN]; exact mat_size hR hr) (by omega) (by omega) hrr
    | none =>
      rcases hA with h | ⟨b, x, h, _⟩
      · have : l = [] := by simpa [f64s] using h
        subst this
        simp at hl
        omega
      · cases h
theorem max_int (R C : Nat) : (if (R : Int) < (C : Int) then (C : Int) else (R : Int)) = ((max R C : Nat) : Int) := by split <;> omega

theorem run_max_nat (P : Program) (ts : Array TypeId) (t : TypeId) (x y : Nat) (w : World) : (Builtin.max_ ts t #[.int .i64 (x : Int), .int .i64 (y : Int)]).run P w = .ok (.int .i64 ((max x y : Nat) : Int)) w := by
  rw [← max_int]
  simp [Builtin.max_, Builtin.max2]
attribute [local go_sem ↓] run_max_nat
end Go.Proofs.Ytelpdbkkefpjhaa
