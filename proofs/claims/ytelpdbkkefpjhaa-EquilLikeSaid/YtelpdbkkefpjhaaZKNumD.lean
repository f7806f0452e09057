/-
Scale comes to the nearest number. Conditions: the word is below 2^64.
-/
import Derived.Test.YtelpdbkkefpjhaaWKc
set_option linter.unusedVariables false
namespace Go.Proofs.Ytelpdbkkefpjhaa
open Go.RowKit
attribute [local go_sem ↓] ib_andNot_sign ib_and_frac ib_and_15 ib_and_1 ib_and_sign ib_and_inf ib_or

theorem orU_sign {b r : Nat} (hr : r < 9223372036854775808) : orU (signOf (b : Int)) (r : Int) = ((Fl.wd (Fl.sg b) r : Nat) : Int) := by
  have h0 : signOf (b : Int) = ((Fl.wd (Fl.sg b) 0 : Nat) : Int) := by
    unfold signOf Fl.wd Fl.sg
    by_cases h1 : b / 9223372036854775808 % 2 = 1
    · simp [h1]; omega
    · simp [h1]; omega
  have hz : Fl.wd (Fl.sg b) 0 = 0 ∨ Fl.wd (Fl.sg b) 0 = 9223372036854775808 := by unfold Fl.wd; cases Fl.sg b <;> simp
  rw [h0, orU_nat 63 (by omega) (by omega) hr (by omega)]
  unfold Fl.wd; cases Fl.sg b <;> simp

/-- The power of 2 within the bounds beyond which nothing changes. -/
def clamp (k : Int) : Int := if k < -2099 then -2099 else if 2099 < k then 2099 else k
theorem clamp_scl {b : Nat} (h0 : Fl.rung b ≠ 0) (hf : Fl.rung b < Fl.INF) (k : Int) : Fl.scl (Fl.dm b) (Fl.de b + clamp k + 1074) = Fl.scl (Fl.mag (Fl.rung b)) k := by
  have hd := Fl.dm_bounds h0
  have he := Fl.de_bounds hf
  rw [Fl.scl_digits]
  unfold clamp
  have low : ∀ j : Int, j ≤ -54 → Fl.scl (Fl.dm b) j = 0 := by
    intro j hj
    refine Fl.scl_low _ _ ?_ (by omega)
    have : 2 ^ 54 ≤ 2 ^ (-j).toNat := Nat.pow_le_pow_right (by omega) (by omega)
    omega
  have high : ∀ j : Int, 2046 ≤ j → Fl.scl (Fl.dm b) j = Fl.INF := by
    intro j hj
    have := Fl.scl_exact (Fl.dm b) j.toNat hd.2 (.inl hd.1)
    rw [Int.toNat_of_nonneg (by omega)] at this
    have hI := Fl.INF_val
    rw [this]; unfold Fl.cap; omega
  split
  · rw [low _ (by omega), low _ (by omega)]
  · split
    · rw [high _ (by omega), high _ (by omega)]
    · congr 1; omega
theorem scale_any (b : Nat) (k : Int) (w : World) (hb : b < 18446744073709551616) :
    Calls Try.prog 40 #[.float .f64 b, .int .i64 k] w fun e w' => e = .returned (.float .f64 (Fl.scale b k)) ∧ Below w.heap.size w w' := by
  have ht := eql_zero b
  by_cases h0 : Fl.rung b = 0
  · rw [decide_eq_true h0] at ht
    have he : Fl.scale b k = b := by unfold Fl.scale; rw [if_pos (.inl h0)]
    rw [he]
    clear he h0
    go_enter Try.func40, Try.ntmps40
    go_wp2_with fail
    go_ret
    exact ⟨rfl, Below.refl _ _⟩
  · rw [decide_eq_false h0] at ht
    by_cases hf : Fl.rung b < Fl.INF
    · have hfin : Fl.fin b = true := decide_eq_true hf
      have hx := clamp_scl h0 hf k
      have he : Fl.scale b k = Fl.wd (Fl.sg b) (Fl.scl (Fl.dm b) (Fl.de b + clamp k + 1074)) := by rw [hx]; unfold Fl.scale; rw [if_neg (by omega)]
      have hd := Fl.de_bounds hf
      obtain ⟨d1, d2⟩ := hd
      have hm := Fl.dm_bounds h0
      rw [he]
      have H0 := Lib.hid h0
      have HF := Lib.hid hf
      have HI := Lib.hid hfin
      have HM := Lib.hid hm
      clear he hx h0 hf hfin hm
      have hk : (k < -2099 ∧ clamp k = -2099) ∨ (2099 < k ∧ clamp k = 2099) ∨ ((-2099 ≤ k ∧ k ≤ 2099) ∧ clamp k = k) := by
        unfold clamp; split
        · exact .inl ⟨by omega, rfl⟩
        · split
          · exact .inr (.inl ⟨by omega, rfl⟩)
          · exact .inr (.inr ⟨by omega, rfl⟩)
      rcases hk with ⟨k1, k2⟩ | ⟨k1, k2⟩ | ⟨k1, k2⟩
      all_goals
        rw [k2]
        clear k2
        go_enter Try.func40, Try.ntmps40
        go_wp2_with fail
        refine (finite_one _ _ b _ hb (by simp)).mono ?_
        rintro e w' ⟨rfl, rfl⟩
        rw [HI.out]
        go_wp2_with fail
        refine (digits_any b _ hb H0.out HF.out).mono ?_
        rintro e w' ⟨rfl, rfl⟩
        go_wp2_with fail
        refine (join_any (Fl.dm b) _ _ HM.out.1 HM.out.2 (by omega) (by omega)).mono ?_
        rintro e w' ⟨rfl, hbl⟩
        go_wp2_with fail
        go_ret
        refine ⟨ret_float ?_, ((Below.refl _ _).alloc (Nat.le_refl _) _).trans (hbl.mono (by simp))⟩
        rw [orU_sign (Nat.lt_of_le_of_lt (Fl.scl_le _ _) (by decide)), Int.toNat_natCast]
    · have hfin : Fl.fin b = false := decide_eq_false hf
      have he : Fl.scale b k = b := by unfold Fl.scale; rw [if_pos (.inr (by omega))]
      rw [he]
      have HI := Lib.hid hfin
      clear he h0 hf hfin
      go_enter Try.func40, Try.ntmps40
      go_wp2_with fail
      refine (finite_one _ _ b _ hb (by simp)).mono ?_
      rintro e w' ⟨rfl, rfl⟩
      rw [HI.out]
      go_wp2_with fail
      go_ret
      exact ⟨rfl, (Below.refl _ _).alloc (Nat.le_refl _) _⟩
end Go.Proofs.Ytelpdbkkefpjhaa
