/-
List, Write: the document's numbers of a vector. Conditions: the vector is right, its list has at most 2^20 numbers.
-/
import Derived.Test.YtbjopdnfjjcpoaaVal
set_option linter.unusedVariables false
namespace Go.Proofs.Ytbjopdnfjjcpoaa
open Go.RowKit
attribute [local go_sem ↓] Go.wp_at_zero Go.wp_at_succ

theorem wrap3 {o a P : Nat} (hP : P < 1048576) (h : o + a = P) : wrap64 (a : Int) = (a : Int) ∧ wrap64 (P : Int) = (P : Int) ∧ IntKind.i64.wrap (a : Int) = (a : Int) ∧ IntKind.i64.wrap (P : Int) = (P : Int) :=
  ⟨wrap_id (by unfold I64; omega), wrap_id (by unfold I64; omega), wrapi (by omega) (by omega), wrapi (by omega) (by omega)⟩
theorem f64s_snoc (l : List Nat) (x : Nat) : f64s (l ++ [x]) = f64s l ++ [.float .f64 x] := by simp [f64s]
theorem own_row {w : World} {B : Nat} {v : Value} {n : Nat} {l : List Nat} (h : w.ownsRow B 39 1 v n (f64s l)) (hn : n = l.length) : ∃ A c, v = .slice A n c ∧ Row w A (f64s l) := by
  by_cases hv : v = .slice none 0 0
  · subst hv
    have hl := h.1
    obtain ⟨_, ⟨_, h0⟩ | ⟨g, cap, cur, h1, _⟩⟩ := h
    · subst h0
      have : l = [] := List.length_eq_zero_iff.1 hn.symm
      subst this
      exact ⟨none, 0, rfl, .inl rfl⟩
    · cases h1
  · obtain ⟨g, c, rfl, _, _, _, ho⟩ := own_of h hv hn
    exact ⟨_, c, rfl, ho.row⟩

end Go.Proofs.Ytbjopdnfjjcpoaa
