/-
ViewDense. Conditions: the list's words are below 2^64.
-/
import Derived.Test.YtbjopdnfjjcpoaaZVwF
set_option linter.unusedVariables false
namespace Go.Proofs.Ytbjopdnfjjcpoaa
open Go.RowKit
attribute [local go_sem ↓] Go.wp_at_zero Go.wp_at_succ

theorem dense_tab {l M T : List Nat} {r k D N : Nat} (hD : max 1 r = D) (hN : r * k = N) (h : Dense l r k M) (ht : Tab M 0 r k D N T) (q : Nat) (hq : q < N) : T.getD q 0 = l.getD q 0 := by
  subst hN
  have hk : 0 < k := by rcases Nat.eq_zero_or_pos k with rfl | h0 <;> omega
  have hr : 0 < r := by rcases Nat.eq_zero_or_pos r with rfl | h0 <;> omega
  obtain rfl : r = D := by omega
  have h1 : q / k < r := Nat.div_lt_of_lt_mul (by rwa [Nat.mul_comm])
  have h2 : q % k < k := Nat.mod_lt _ hk
  have h3 : q / k * k + q % k = q := by rw [Nat.mul_comm]; exact Nat.div_add_mod q k
  have h4 := ht.2 (q / k) (q % k) h1 h2 (by omega)
  rw [h3, Nat.zero_add] at h4
  rw [h4]
  exact h.2 q hq
theorem dense_good (r k D N : Nat) (hD : max 1 r = D) (hN : r * k = N) : matB N 0 r k D = true := by
  refine decide_eq_true ⟨by omega, by omega, by omega, by omega, by omega, ?_⟩
  by_cases hr : r = 0
  · exact .inl (by omega)
  by_cases hk : k = 0
  · exact .inr (.inl (by omega))
  refine .inr (.inr ?_)
  obtain rfl : r = D := by omega
  subst hN
  have h1 : ((k : Int) - 1) * (r : Int) = (k : Int) * r - r := by rw [Int.sub_mul, Int.one_mul]
  have h2 : ((r * k : Nat) : Int) = (k : Int) * r := by rw [Int.natCast_mul, Int.mul_comm]
  rw [h1, h2]; omega

end Go.Proofs.Ytbjopdnfjjcpoaa
