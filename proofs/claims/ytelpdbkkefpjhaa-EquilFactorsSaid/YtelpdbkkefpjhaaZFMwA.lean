/-
The document's Rows of a table. Conditions: the table has at most 2^40 numbers.
-/
import Derived.Test.YtelpdbkkefpjhaaWFc
set_option linter.unusedVariables false
namespace Go.Proofs.Ytelpdbkkefpjhaa
open Go.RowKit
attribute [local go_sem ↓] Go.wp_at_zero Go.wp_at_succ

theorem tab_inj {C a b a' b' : Nat} (hb : b < C) (hb' : b' < C) (h : a * C + b = a' * C + b') : a = a' ∧ b = b' := by
  have h1 : (a * C + b) % C = b := by rw [Nat.mul_add_mod_self_right, Nat.mod_eq_of_lt hb]
  have h2 : (a' * C + b') % C = b' := by rw [Nat.mul_add_mod_self_right, Nat.mod_eq_of_lt hb']
  have e : b = b' := by rw [← h1, h, h2]
  subst e
  have hm : a * C = a' * C := by omega
  exact ⟨Nat.eq_of_mul_eq_mul_right (by omega) hm, rfl⟩
/-- The first q columns have changed rows i and k. -/
def Half (T : List Nat) (i k R C q : Nat) (T' : List Nat) : Prop := T'.length = T.length ∧ ∀ a, a < R → ∀ b, b < C → T'.getD (a * C + b) 0 = if b < q then T.getD (sw i k a * C + b) 0 else T.getD (a * C + b) 0
theorem Half.zero (T : List Nat) (i k R C : Nat) : Half T i k R C 0 T := ⟨rfl, fun a _ b _ => by simp⟩
theorem Half.step {T T' : List Nat} {i k R C q : Nat} (h : Half T i k R C q T') (hi : i < R) (hk : k < R) (hq : q < C) (hT : T.length = R * C) :
    Half T i k R C (q + 1) ((T'.set (i * C + q) (T'.getD (k * C + q) 0)).set (k * C + q) (T'.getD (i * C + q) 0)) := by
  refine ⟨by rw [List.length_set, List.length_set]; exact h.1, fun a ha b hb => ?_⟩
  have hli := tab_lt hi hq
  have hlk := tab_lt hk hq
  have hx := h.2 i hi q hq
  have hy := h.2 k hk q hq
  rw [if_neg (by omega)] at hx hy
  have hl := h.1
  by_cases e : b = q
  · subst e
    rw [if_pos (by omega)]
    by_cases e1 : a = k
    · subst e1
      rw [getD_set_self (by rw [List.length_set]; omega), hx]
      have : sw i a a = i := by
        unfold sw
        by_cases h2 : a = i
        · rw [if_pos h2]; exact h2
        · rw [if_neg h2, if_pos rfl]
      rw [this]
    · rw [getD_set_ne _ (fun e2 => e1 (tab_inj hq hq e2).1.symm)]
      by_cases e2 : a = i
      · subst e2
        rw [getD_set_self (by omega), hy]
        have : sw a k a = k := by unfold sw; rw [if_pos rfl]
        rw [this]
      · rw [getD_set_ne _ (fun e3 => e2 (tab_inj hq hq e3).1.symm), h.2 a ha b hb, if_neg (by omega)]
        have : sw i k a = a := by unfold sw; rw [if_neg e2, if_neg e1]
        rw [this]
  · rw [getD_set_ne _ (fun e2 => e (tab_inj hq hb e2).2.symm), getD_set_ne _ (fun e2 => e (tab_inj hq hb e2).2.symm), h.2 a ha b hb]
    by_cases h2 : b < q
    · rw [if_pos h2, if_pos (by omega)]
    · rw [if_neg h2, if_neg (by omega)]

end Go.Proofs.Ytelpdbkkefpjhaa
