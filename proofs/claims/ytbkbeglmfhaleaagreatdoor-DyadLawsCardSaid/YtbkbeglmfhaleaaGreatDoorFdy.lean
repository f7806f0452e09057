/-
A float's number.
-/
import Derived.Test.YtbkbeglmfhaleaaGreatDoorDy
import Derived.Test.YtbkbeglmfhaleaaGreatDoorFl
import Derived.Test.YtbkbeglmfhaleaaGreatDoorFlB
set_option linter.unusedVariables false
namespace Go.Proofs.YtbkbeglmfhaleaaGreatDoor

/-- A float's number. -/
def fdy (b : Nat) : Dyadic := dy (Fl.val b) (-1074)
theorem fdy_parts (b : Nat) : dy (if Fl.sg b then -(Fl.pm b : Int) else (Fl.pm b : Int)) ((Fl.pe b : Int) - 1074) = fdy b := by
  unfold fdy Fl.val
  rw [Fl.mag_parts, show ((Fl.pe b : Int) - 1074) = -1074 + (Fl.pe b : Int) by omega, ← dy_pow]
  congr 1
  cases Fl.sg b <;> simp [Int.neg_mul]
theorem mag_inf (K : Nat) (hK : K = 2098) : Fl.mag Fl.INF = 2 ^ K := by
  have e2 : 4503599627370496 + 9218868437227405312 % 4503599627370496 = 2 ^ 52 := by decide
  obtain ⟨k, hk⟩ : ∃ k, 9218868437227405312 / 4503599627370496 - 1 = k := ⟨_, rfl⟩
  unfold Fl.mag Fl.INF
  rw [if_neg (by omega), hk, e2, ← Nat.pow_add, show 52 + k = K by omega]
theorem mag_lt_big {r : Nat} (K : Nat) (hK : K = 2098) (h : r < Fl.INF) : Fl.mag r < 2 ^ K := by
  have h1 : Fl.mag r < Fl.mag Fl.INF := Fl.mag_lt h
  rw [mag_inf K hK] at h1
  exact h1
theorem val_lt_big {b : Nat} (K : Nat) (hK : K = 2098) (h : Fl.rung b < Fl.INF) : (Fl.val b).natAbs < 2 ^ K := by
  have := mag_lt_big K hK h
  unfold Fl.val
  generalize 2 ^ K = P at *
  split <;> omega
end Go.Proofs.YtbkbeglmfhaleaaGreatDoor
