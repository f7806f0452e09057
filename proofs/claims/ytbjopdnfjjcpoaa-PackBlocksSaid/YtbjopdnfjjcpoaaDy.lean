/-
Dyadic numbers as m times 2^e. Conditions: as each says.
-/
import Derived.KernelRfl
set_option linter.unusedVariables false
namespace Go.Proofs.Ytbjopdnfjjcpoaa

/-- m times 2^e. -/
def dy (m e : Int) : Dyadic := Dyadic.ofIntWithPrec m (-e)

theorem dy_toRat (m e : Int) : (dy m e).toRat = m * 2 ^ e := by
  unfold dy; rw [Dyadic.toRat_ofIntWithPrec_eq_mul_two_pow, Int.neg_neg]
theorem dy_zero (e : Int) : dy 0 e = 0 := rfl
theorem dy_neg (m e : Int) : -dy m e = dy (-m) e := Dyadic.neg_ofIntWithPrec
theorem two_ne : (2 : Rat) ≠ 0 := by decide
theorem dy_add (m n e : Int) : dy m e + dy n e = dy (m + n) e := by
  rw [← Dyadic.toRat_inj, Dyadic.toRat_add, dy_toRat, dy_toRat, dy_toRat, Rat.intCast_add, Rat.add_mul]
theorem dy_mul (m n e f : Int) : dy m e * dy n f = dy (m * n) (e + f) := by
  rw [← Dyadic.toRat_inj, Dyadic.toRat_mul, dy_toRat, dy_toRat, dy_toRat, Rat.intCast_mul, Rat.zpow_add two_ne]
  grind
theorem dy_pow (m e : Int) (k : Nat) : dy (m * 2 ^ k) e = dy m (e + k) := by
  rw [← Dyadic.toRat_inj, dy_toRat, dy_toRat, Rat.intCast_mul, Rat.zpow_add two_ne, Rat.zpow_natCast, Rat.intCast_pow]
  have : ((2 : Int) : Rat) = 2 := rfl
  rw [this]
  grind
theorem dy_sub (m n e : Int) : dy m e - dy n e = dy (m - n) e := by
  show dy m e + -dy n e = _
  rw [dy_neg, dy_add, Int.sub_eq_add_neg]
theorem dy_lt (m n e : Int) : dy m e < dy n e ↔ m < n := by
  rw [← Dyadic.toRat_lt_toRat_iff, dy_toRat, dy_toRat]
  have h : (0 : Rat) < 2 ^ e := Rat.zpow_pos (by decide)
  constructor
  · intro hl
    have := Rat.lt_of_mul_lt_mul_right hl (Rat.le_of_lt h)
    exact Rat.intCast_lt_intCast.1 this
  · intro hl
    exact Rat.mul_lt_mul_of_pos_right (Rat.intCast_lt_intCast.2 hl) h
theorem dy_eq (m n e : Int) : dy m e = dy n e ↔ m = n := by
  constructor
  · intro h
    have h1 := dy_lt m n e
    have h2 := dy_lt n m e
    rw [h] at h1 h2
    have i1 : ¬ dy n e < dy n e := by rw [← Dyadic.toRat_lt_toRat_iff]; exact Rat.lt_irrefl
    have j1 : ¬ m < n := fun hh => i1 (h1.2 hh)
    have j2 : ¬ n < m := fun hh => i1 (h2.2 hh)
    omega
  · rintro rfl; rfl
theorem dy_eq_zero (m e : Int) : dy m e = 0 ↔ m = 0 := by rw [← dy_zero e, dy_eq]
/-- The m and the e of the canonical form. -/
def mant : Dyadic → Int | .zero => 0 | .ofOdd n _ _ => n
def expo : Dyadic → Int | .zero => 0 | .ofOdd _ k _ => -k
theorem dy_mant (d : Dyadic) : dy (mant d) (expo d) = d := by
  cases d with
  | zero => rfl
  | ofOdd n k h => simp only [mant, expo, dy, Int.neg_neg]; exact Dyadic.ofOdd_eq_ofIntWithPrec.symm
theorem mant_zero : mant 0 = 0 := rfl
theorem expo_zero : expo 0 = 0 := rfl
theorem mant_eq_zero (d : Dyadic) : mant d = 0 ↔ d = 0 := by
  cases d with
  | zero => simp [mant]
  | ofOdd n k h => simp [mant]; omega
theorem mant_odd (d : Dyadic) (h : d ≠ 0) : mant d % 2 = 1 := by
  cases d with
  | zero => exact absurd rfl h
  | ofOdd n k h' => exact h'
theorem dy_odd (m e : Int) (h : m % 2 = 1) : dy m e = .ofOdd m (-e) h := (Dyadic.ofOdd_eq_ofIntWithPrec).symm
theorem mant_dy (m e : Int) (h : m % 2 = 1) : mant (dy m e) = m := by rw [dy_odd m e h]; rfl
theorem expo_dy (m e : Int) (h : m % 2 = 1) : expo (dy m e) = e := by rw [dy_odd m e h]; simp [expo]
theorem mant_neg (d : Dyadic) : mant (-d) = -mant d := by cases d <;> rfl
theorem expo_neg (d : Dyadic) : expo (-d) = expo d := by cases d <;> rfl
end Go.Proofs.Ytbjopdnfjjcpoaa
