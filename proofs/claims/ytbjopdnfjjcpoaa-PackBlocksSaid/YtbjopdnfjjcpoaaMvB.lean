/-
Vectors that meet, and Pair. Conditions: as each says.
-/
import Derived.Test.YtbjopdnfjjcpoaaHeld
set_option linter.unusedVariables false
namespace Go.Proofs.Ytbjopdnfjjcpoaa
open Go.RowKit
attribute [local go_sem ↓] Go.wp_at_zero Go.wp_at_succ

/-- Have vectors of K numbers a place in common? -/
def metB (off inc off' inc' K : Nat) : Bool := (List.range K).any fun i => (List.range K).any fun j => off + i * inc == off' + j * inc'
theorem metB_true {off inc off' inc' K : Nat} : metB off inc off' inc' K = true ↔ ∃ i, i < K ∧ ∃ j, j < K ∧ off + i * inc = off' + j * inc' := by
  simp [metB]
theorem metB_false {off inc off' inc' K : Nat} : metB off inc off' inc' K = false ↔ ∀ i, i < K → ∀ j, j < K → off + i * inc ≠ off' + j * inc' := by
  rw [← Bool.not_eq_true, metB_true]
  constructor
  · intro h i hi j hj e
    exact h ⟨i, hi, j, hj, e⟩
  · rintro h ⟨i, hi, j, hj, e⟩
    exact h i hi j hj e

theorem vec_mat (n : Nat) (off k inc : Int) : matB n off 1 k inc = vecB n off k inc := by
  unfold matB vecB
  exact decide_eq_decide.2 (by omega)
/-- A right vector, in plain numbers. -/
theorem vec_nat {n : Nat} {off k inc : Int} (h : vecB n off k inc = true) : ∃ o K i : Nat, off = o ∧ k = K ∧ inc = i ∧ 1 ≤ i ∧ (K = 0 ∨ o + (K - 1) * i < n) := by
  have h := of_decide_eq_true h
  refine ⟨off.toNat, k.toNat, inc.toNat, by omega, by omega, by omega, by omega, ?_⟩
  rcases h.2.2.2 with h0 | h0
  · exact .inl (by omega)
  · by_cases hk : k = 0
    · exact .inl (by omega)
    · refine .inr ?_
      have e : ((off.toNat + (k.toNat - 1) * inc.toNat : Nat) : Int) = off + (k - 1) * inc := by
        rw [Int.natCast_add, Int.natCast_mul, Int.toNat_of_nonneg (by omega), Int.toNat_of_nonneg (by omega : 0 ≤ inc)]
        congr 2
        omega
      omega
theorem vec_right {n o K i : Nat} (hi : 1 ≤ i) (h : K = 0 ∨ o + (K - 1) * i < n) : vecB n (o : Int) (K : Int) (i : Int) = true := by
  refine decide_eq_true ⟨by omega, by omega, by omega, ?_⟩
  rcases h with h | h
  · exact .inl (by omega)
  · rcases Nat.eq_zero_or_pos K with h0 | h0
    · exact .inl (by omega)
    · refine .inr ?_
      have e : ((K : Int) - 1) * (i : Int) = (((K - 1) * i : Nat) : Int) := by rw [Int.natCast_mul]; congr 1; omega
      rw [e]; omega

theorem stands_iff {off' K inc' p : Nat} (hi : 1 ≤ inc') : standsB (off' : Int) (K : Int) (inc' : Int) (p : Int) = true ↔ ∃ j, j < K ∧ p = off' + j * inc' := by
  unfold standsB
  rw [decide_eq_true_eq]
  constructor
  · rintro ⟨h1, h2, h3⟩
    obtain ⟨q, hq⟩ : ∃ q : Nat, (p : Int) - off' = q := ⟨p - off', by omega⟩
    rw [hq] at h2 h3
    have h2' : q % inc' = 0 := by exact_mod_cast h2
    have h3' : q / inc' < K := by exact_mod_cast h3
    refine ⟨q / inc', h3', ?_⟩
    have := Nat.div_add_mod q inc'
    rw [h2', Nat.mul_comm] at this
    omega
  · rintro ⟨j, hj, rfl⟩
    have e : ((off' + j * inc' : Nat) : Int) - off' = ((j * inc' : Nat) : Int) := by omega
    rw [e]
    refine ⟨by omega, ?_, ?_⟩
    · have : j * inc' % inc' = 0 := Nat.mul_mod_left _ _
      exact_mod_cast this
    · have : j * inc' / inc' = j := Nat.mul_div_cancel _ hi
      have h2 : ((j * inc' : Nat) : Int) / (inc' : Int) = ((j * inc' / inc' : Nat) : Int) := by simp
      rw [h2, this]; exact_mod_cast hj
theorem stands_not {off' K inc' p : Nat} (hi : 1 ≤ inc') (h : standsB (off' : Int) (K : Int) (inc' : Int) (p : Int) = false) : ∀ j, j < K → p ≠ off' + j * inc' := by
  intro j hj e
  rw [(stands_iff hi).2 ⟨j, hj, e⟩] at h
  cases h

/-- What Meet says of the rows that two vectors of K numbers are. -/
def spanB (n o i n' o' i' K : Nat) : Bool := bothB n o 1 K i n' o' 1 K i' && (decide ((o : Int) ≤ lastI o' 1 K i') && decide ((o' : Int) ≤ lastI o 1 K i))
theorem span_not {n o i n' o' i' K : Nat} (hi : 1 ≤ i) (hi' : 1 ≤ i') (hr : K = 0 ∨ o + (K - 1) * i < n) (hr' : K = 0 ∨ o' + (K - 1) * i' < n') (h : spanB n o i n' o' i' K = false) : metB o i o' i' K = false := by
  rw [metB_false]
  intro a ha b hb e
  have h1 : bothB n o 1 K i n' o' 1 K i' = true := by
    unfold bothB
    rw [vec_mat, vec_mat, vec_right hi hr, vec_right hi' hr']
    have : ((K : Int) == 0) = false := by simp; omega
    simp [this]
  unfold spanB at h
  rw [h1] at h
  have a1 : a * i ≤ (K - 1) * i := Nat.mul_le_mul_right _ (by omega)
  have b1 : b * i' ≤ (K - 1) * i' := Nat.mul_le_mul_right _ (by omega)
  have e1 : ((K : Int) - 1) * (i : Int) = (((K - 1) * i : Nat) : Int) := by rw [Int.natCast_mul]; congr 1; omega
  have e2 : ((K : Int) - 1) * (i' : Int) = (((K - 1) * i' : Nat) : Int) := by rw [Int.natCast_mul]; congr 1; omega
  unfold lastI at h
  rw [e1, e2] at h
  simp at h
  omega

theorem and_turn (a b c : Bool) : (a && b && c) = (b && (a && c)) := by cases a <;> cases b <;> cases c <;> rfl
end Go.Proofs.Ytbjopdnfjjcpoaa
