/-
Make, the document's rounding by steps, comes to the nearest number. Conditions: the digits are below 2^62.
-/
import Derived.Test.YtelpdbkkefpjhaaZKNumD
import Derived.Deep.DeepCutAuto
set_option linter.unusedVariables false
namespace Go.Proofs.Ytelpdbkkefpjhaa
open Go.RowKit
attribute [local go_sem ↓] ib_andNot_sign ib_and_frac ib_and_15 ib_and_1 ib_and_sign ib_and_inf ib_or

/-- After some doublings of m, each of which took one from e. -/
def Up1 (m : Nat) (e : Int) (M : Nat) (E : Int) : Prop := ∃ j : Nat, M = m * 2 ^ j ∧ E = e - j ∧ (j = 0 ∨ (M < 9007199254740992 ∧ -1074 ≤ E))
theorem Up1.start (m : Nat) (e : Int) : Up1 m e m e := ⟨0, by simp, by omega, .inl rfl⟩
theorem Up1.step {m : Nat} {e : Int} {M : Nat} {E : Int} (h : Up1 m e M E) (h1 : M < 4503599627370496) (h2 : -1074 < E) : Up1 m e (M * 2) (E - 1) := by
  obtain ⟨j, rfl, rfl, _⟩ := h
  exact ⟨j + 1, by rw [Nat.pow_succ, Nat.mul_assoc], by omega, .inr ⟨by omega, by omega⟩⟩
theorem Up1.scl {m : Nat} {e : Int} {M : Nat} {E : Int} (h : Up1 m e M E) : Fl.scl m (e + 1074) = Fl.scl M (E + 1074) := by
  obtain ⟨j, rfl, rfl, _⟩ := h
  rw [Fl.scl_shift]; congr 1; omega

/-- The last digit that was cut off, and whether one behind it was 1. -/
def lostB (m i : Nat) : Bool := if i = 0 then false else decide (m % 2 ^ (i - 1) ≠ 0)
def halfB (m i : Nat) : Bool := if i = 0 then false else decide (m / 2 ^ (i - 1) % 2 = 1)
def Down2 (m : Nat) (e : Int) (M : Nat) (E : Int) (lost half : Bool) : Prop :=
  ∃ i : Nat, M = m / 2 ^ i ∧ E = e + i ∧ lost = lostB m i ∧ half = halfB m i ∧ (i = 0 ∨ 4503599627370496 ≤ M ∨ E ≤ -1074)
theorem Down2.start (m : Nat) (e : Int) : Down2 m e m e false false := ⟨0, by simp, by omega, rfl, rfl, .inl rfl⟩
theorem Down2.step {m : Nat} {e : Int} {M : Nat} {E : Int} {lost half : Bool} (h : Down2 m e M E lost half) (hc : 9007199254740992 ≤ M ∨ E < -1074) :
    Down2 m e (M / 2) (E + 1) (lost || half) (decide (M % 2 = 1)) := by
  obtain ⟨i, rfl, rfl, rfl, rfl, _⟩ := h
  refine ⟨i + 1, by rw [Nat.pow_succ, Nat.div_div_eq_div_mul], by omega, ?_, ?_, ?_⟩
  · unfold lostB halfB
    rw [if_neg (show ¬ i + 1 = 0 by omega), show i + 1 - 1 = i by omega]
    by_cases h0 : i = 0
    · subst h0; simp [Nat.mod_one]
    · rw [if_neg h0, if_neg h0]
      obtain ⟨k, rfl⟩ : ∃ k, i = k + 1 := ⟨i - 1, by omega⟩
      rw [show k + 1 - 1 = k by omega, Nat.mod_pow_succ]
      have hp : 0 < 2 ^ k := Nat.two_pow_pos k
      rw [Bool.eq_iff_iff]
      simp only [Bool.or_eq_true, decide_eq_true_eq]
      have hb : m / 2 ^ k % 2 = 0 ∨ m / 2 ^ k % 2 = 1 := by omega
      rcases hb with hb | hb
      · rw [hb]; simp
      · rw [hb]; simp
  · unfold halfB
    rw [if_neg (show ¬ i + 1 = 0 by omega), show i + 1 - 1 = i by omega]
  · rcases hc with hc | hc
    · exact .inr (.inl (by omega))
    · exact .inr (.inr (by omega))
/-- Rounded: one more if the last digit that was cut off was 1, and one behind it, or the last that is kept. -/
theorem rne_lost (m i : Nat) : Fl.rne m i = m / 2 ^ i + if halfB m i = true ∧ (lostB m i = true ∨ m / 2 ^ i % 2 = 1) then 1 else 0 := by
  by_cases h0 : i = 0
  · subst h0; rw [Fl.rne_d0]; simp [halfB]
  · rw [rne_half m i (by omega)]
    congr 1
    unfold halfB lostB
    rw [if_neg h0, if_neg h0]
    obtain ⟨k, rfl⟩ : ∃ k, i = k + 1 := ⟨i - 1, by omega⟩
    rw [show k + 1 - 1 = k by omega, Nat.mod_pow_succ]
    have hp : 0 < 2 ^ k := Nat.two_pow_pos k
    have hm := Nat.mod_lt m hp
    simp only [decide_eq_true_eq]
    have hb : m / 2 ^ k % 2 = 0 ∨ m / 2 ^ k % 2 = 1 := by omega
    generalize m / 2 ^ (k + 1) % 2 = z
    rcases hb with hb | hb
    · rw [hb, if_neg (by simp; omega), if_neg (by omega)]
    · rw [hb]
      by_cases h1 : m % 2 ^ k = 0
      · by_cases h2 : z = 1
        · rw [if_pos (by simp; omega), if_pos ⟨rfl, .inr h2⟩]
        · rw [if_neg (by simp; omega), if_neg (by omega)]
      · rw [if_pos (by simp; omega), if_pos ⟨rfl, .inl h1⟩]

/-- The rung that Make comes to, out of what its loops leave. -/
theorem Down2.scl {m : Nat} {e : Int} {M : Nat} {E : Int} {lost half : Bool} (h : Down2 m e M E lost half) (h1 : M < 9007199254740992) (h2 : -1074 ≤ E) (h3 : 4503599627370496 ≤ m ∨ e ≤ -1074) :
    Fl.scl m (e + 1074) = Fl.cap ((E + 1074).toNat * 4503599627370496 + (M + if half = true ∧ (lost = true ∨ M % 2 = 1) then 1 else 0)) ∧ (4503599627370496 ≤ M ∨ E = -1074) := by
  obtain ⟨i, rfl, rfl, rfl, rfl, hl⟩ := h
  have hq : 4503599627370496 ≤ m / 2 ^ i ∨ (e + i + 1074).toNat = 0 := by
    rcases hl with rfl | hl | hl
    · rcases h3 with h3 | h3
      · left; simpa using h3
      · right; omega
    · exact .inl hl
    · right; omega
  have := Fl.scl_place m i (e + i + 1074).toNat h1 hq
  rw [Int.toNat_of_nonneg (by omega), show e + (i : Int) + 1074 - (i : Int) = e + 1074 by omega, rne_lost] at this
  exact ⟨this, by omega⟩

/-- What the document's Make answers. -/
def mk (neg : Bool) (m : Nat) (e : Int) : Nat := Fl.wd neg (Fl.scl m (e + 1074))

end Go.Proofs.Ytelpdbkkefpjhaa
/-
What Two, Up, Down come to, and the document's Same, Finite, Exp, Scale, Up. Conditions: the words are below 2^64.
-/
set_option linter.unusedVariables false
namespace Go.Proofs.Ytelpdbkkefpjhaa
open Go.RowKit
attribute [local go_sem ↓] ib_andNot_sign ib_and_frac ib_and_15 ib_and_1 ib_and_sign ib_and_inf ib_or

/-- A word with the other sign. -/
def negB (b : Nat) : Nat := Op.negFloat .f64 b
theorem unary_neg (b : Nat) : Op.unary .neg (.float .f64 b) = pure (.float .f64 (negB b)) := rfl
attribute [go_sem ↓] unary_neg
end Go.Proofs.Ytelpdbkkefpjhaa
