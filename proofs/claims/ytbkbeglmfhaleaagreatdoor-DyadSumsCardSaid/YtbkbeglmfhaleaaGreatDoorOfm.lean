/-
A float's digits as an int, and its value as a dyadic number.
-/
import Derived.Test.YtbkbeglmfhaleaaGreatDoorNumD
import Derived.Test.YtbkbeglmfhaleaaGreatDoorFdy
import Derived.Test.YtbkbeglmfhaleaaGreatDoorCan
import Derived.Laws.FloatArith
set_option linter.unusedVariables false
namespace Go.Proofs.YtbkbeglmfhaleaaGreatDoor
open Go.RowKit Ieee

/-- A float's digits, with its sign. -/
def fdm (b : Nat) : Int := if Fl.sg b then -(Fl.dm b : Int) else (Fl.dm b : Int)

theorem signed_zero (s : Bool) (n : Nat) : signed s n 0 = if s then -(n : Int) else (n : Int) := by
  cases s <;> simp [signed]
theorem cut_none (s : Bool) (n : Nat) : Toward.zero.cut s n 0 = n := by
  simp [Toward.cut]
theorem fdm_scl {b : Nat} (h0 : Fl.rung b ≠ 0) (hf : Fl.rung b < Fl.INF) : Fl.scale b (-(Fl.de b)) = Fl.wd (Fl.sg b) (1074 * 4503599627370496 + Fl.dm b) := by
  have hd := Fl.dm_bounds h0
  unfold Fl.scale
  rw [if_neg (by omega), Fl.scl_digits, show Fl.de b + 1074 + -(Fl.de b) = ((1074 : Nat) : Int) by omega, Fl.scl_exact _ _ hd.2 (.inl hd.1)]
  congr 1
  unfold Fl.cap Fl.INF
  omega
theorem fdm_int {b : Nat} (h0 : Fl.rung b ≠ 0) (hf : Fl.rung b < Fl.INF) : floatToIntVal .f64 (Fl.scale b (-(Fl.de b))) .i64 = some (fdm b) := by
  have hd := Fl.dm_bounds h0
  obtain ⟨r, hr⟩ : ∃ r, 1074 * 4503599627370496 + Fl.dm b = r := ⟨_, rfl⟩
  have hlt : r < 9223372036854775808 := by omega
  have hread : double.read (Fl.wd (Fl.sg b) r) = .number (Fl.sg b) (Fl.dm b) 0 := by
    rw [Fl.read_eq, Fl.rung_wd _ hlt, Fl.sg_wd _ hlt, if_neg (by omega), if_pos (by unfold Fl.INF; omega)]
    rw [show r % 4503599627370496 = Fl.dm b - 4503599627370496 by omega, show r / 4503599627370496 = 1075 by omega]
    rw [show 4503599627370496 + (Fl.dm b - 4503599627370496) = Fl.dm b by omega]
    rfl
  have htoi : (double.read (Fl.wd (Fl.sg b) r)).toInt .zero = some (fdm b) := by
    rw [hread]
    show some (signed (Fl.sg b) (Toward.zero.cut (Fl.sg b) (Fl.dm b <<< 0) 0) 0) = _
    rw [cut_none, Nat.shiftLeft_zero, signed_zero]
    rfl
  have hb1 : -9223372036854775808 ≤ fdm b ∧ fdm b ≤ 9223372036854775807 := by unfold fdm; split <;> omega
  unfold floatToIntVal
  rw [fdm_scl h0 hf, hr]
  show (match (double.read (Fl.wd (Fl.sg b) r)).toInt .zero with | some n => _ | none => none) = _
  rw [htoi]
  exact if_pos hb1
theorem zero_int {b : Nat} (hb : b < 18446744073709551616) (h0 : Fl.rung b = 0) : floatToIntVal .f64 b .i64 = some 0 := by
  have hx := Fl.wd_parts hb
  rw [h0] at hx
  rw [← hx]
  cases Fl.sg b <;> decide +kernel
theorem fdy_digits {b : Nat} (h0 : Fl.rung b ≠ 0) (hf : Fl.rung b < Fl.INF) : dy (fdm b) (Fl.de b) = fdy b := by
  have key : ∀ s : Int, dy (s * (Fl.dm b : Int)) (Fl.de b) = dy (s * (Fl.mag (Fl.rung b) : Int)) (-1074) := by
    intro s
    unfold Fl.dm Fl.de
    by_cases h1 : Fl.rung b < 4503599627370496
    · rw [if_pos h1, if_pos h1]
      have hm : Fl.mag (Fl.rung b) = Fl.rung b := by unfold Fl.mag; rw [if_pos h1]
      rw [hm]
      generalize 52 - (Fl.rung b).log2 = j
      rw [Int.natCast_mul, Int.natCast_pow, ← Int.mul_assoc]
      have := dy_pow (s * (Fl.rung b : Int)) (-1074 - (j : Int)) j
      rw [show -1074 - (j : Int) + (j : Int) = -1074 by omega] at this
      exact this
    · rw [if_neg h1, if_neg h1, Fl.mag_parts, Int.natCast_mul, Int.natCast_pow, ← Int.mul_assoc]
      exact (dy_pow _ _ _).symm
  unfold fdy fdm Fl.val
  cases Fl.sg b
  · have := key 1
    simpa using this
  · have := key (-1)
    simpa using this
theorem fdy_zero {b : Nat} (h0 : Fl.rung b = 0) : fdy b = 0 := by
  unfold fdy Fl.val
  rw [h0, Fl.mag_zero]
  simp [dy_zero]
end Go.Proofs.YtbkbeglmfhaleaaGreatDoor
