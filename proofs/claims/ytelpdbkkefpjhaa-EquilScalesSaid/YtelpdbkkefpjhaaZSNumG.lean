/-
What the document's Finite, Scale, Up come to. Conditions: the words are below 2^64.
-/
import Derived.Test.YtelpdbkkefpjhaaWSn
set_option linter.unusedVariables false
namespace Go.Proofs.Ytelpdbkkefpjhaa
open Go.RowKit
attribute [local go_sem ↓] ib_andNot_sign ib_and_frac ib_and_15 ib_and_1 ib_and_sign ib_and_inf ib_or

theorem kind_fin {b : Nat} : (kindOf b != 0) = !Fl.fin b := by
  unfold kindOf Fl.fin
  by_cases h : Fl.rung b < Fl.INF
  · rw [if_pos h]; simp [h]
  · rw [if_neg h]; split <;> simp [h]

theorem rscale_val (b : Nat) (k : Int) (K : Int) (hb : b < 18446744073709551616) (hf : Fl.rung b < Fl.INF) (hK : K = k ∨ (5000 < k ∧ K = 5000) ∨ (k < -5000 ∧ K = -5000)) :
    mk (Fl.sg b) (Fl.pm b) ((Fl.pe b : Int) - 1074 + K) = Fl.scale b k := by
  have hp := Fl.rung_parts b
  have hl := Fl.pm_lt b
  have hu := Fl.pe_lt hf
  have he : Fl.scl (Fl.pm b) ((Fl.pe b : Int) + K) = Fl.scl (Fl.pm b) ((Fl.pe b : Int) + k) := by
    by_cases h0 : Fl.pm b = 0
    · rw [h0, Fl.scl_zero, Fl.scl_zero]
    · have low : ∀ j : Int, j ≤ -2000 → Fl.scl (Fl.pm b) j = 0 := by
        intro j hj
        refine Fl.scl_low _ _ ?_ (by omega)
        have : 2 ^ 55 ≤ 2 ^ (-j).toNat := Nat.pow_le_pow_right (by omega) (by omega)
        omega
      rcases hK with rfl | ⟨h1, rfl⟩ | ⟨h1, rfl⟩
      · rfl
      · rw [Fl.scl_high _ _ h0 (by omega), Fl.scl_high _ _ h0 (by omega)]
      · rw [low _ (by omega), low _ (by omega)]
  unfold mk Fl.scale
  rw [show (Fl.pe b : Int) - 1074 + K + 1074 = (Fl.pe b : Int) + K by omega, he]
  by_cases h0 : Fl.rung b = 0
  · rw [if_pos (.inl h0)]
    have : Fl.pm b = 0 := by omega
    rw [this, Fl.scl_zero]
    have := Fl.wd_parts hb
    rw [h0] at this
    exact this
  · rw [if_neg (by omega), Fl.scale_parts]

theorem rscale_any (b : Nat) (k : Int) (w : World) (hb : b < 18446744073709551616) :
    Calls Try.prog 44 #[.float .f64 b, .int .i64 k] w fun e w' => e = .returned (.float .f64 (Fl.scale b k)) ∧ w = w' := by
  have hkf := @kind_fin b
  by_cases hf : Fl.rung b < Fl.INF
  · have hfin : Fl.fin b = true := decide_eq_true hf
    rw [hfin] at hkf
    have hu := Fl.pe_lt hf
    have hl := Fl.pm_lt b
    have hm : partM b = (Fl.pm b : Int) := if_pos hf
    have he : partE b = (Fl.pe b : Int) - 1074 := if_pos hf
    have hk : (5000 < k ∧ mk (Fl.sg b) (Fl.pm b) ((Fl.pe b : Int) - 1074 + 5000) = Fl.scale b k) ∨ (k < -5000 ∧ mk (Fl.sg b) (Fl.pm b) ((Fl.pe b : Int) - 1074 + -5000) = Fl.scale b k) ∨
        ((-5000 ≤ k ∧ k ≤ 5000) ∧ mk (Fl.sg b) (Fl.pm b) ((Fl.pe b : Int) - 1074 + k) = Fl.scale b k) := by
      by_cases h1 : 5000 < k
      · exact .inl ⟨h1, rscale_val b k _ hb hf (.inr (.inl ⟨h1, rfl⟩))⟩
      · by_cases h2 : k < -5000
        · exact .inr (.inl ⟨h2, rscale_val b k _ hb hf (.inr (.inr ⟨h2, rfl⟩))⟩)
        · exact .inr (.inr ⟨by omega, rscale_val b k _ hb hf (.inl rfl)⟩)
    have HM := Lib.hid hm
    have HE := Lib.hid he
    clear hm he hfin hf
    generalize Fl.pe b = u at *
    generalize Fl.pm b = m at *
    rcases hk with ⟨h1, h2⟩ | ⟨h1, h2⟩ | ⟨⟨h1, h3⟩, h2⟩
    all_goals
      rw [← h2]
      clear h2
      go_enter Try.func44, Try.ntmps44
      go_wp2_with fail
      refine (parts_any b _ hb).mono ?_
      rintro e w' ⟨rfl, rfl⟩
      rw [HM.out, HE.out]
      go_wp2_with fail
      refine (make_any _ m _ _ (by omega) (by omega) (by omega)).mono ?_
      rintro e w' ⟨rfl, rfl⟩
      go_wp2_with fail
      go_ret
      exact ⟨rfl, rfl⟩
  · have hfin : Fl.fin b = false := decide_eq_false hf
    rw [hfin] at hkf
    have hs : Fl.scale b k = b := by unfold Fl.scale; rw [if_pos (.inr (by omega))]
    rw [hs]
    clear hs hfin hf
    go_enter Try.func44, Try.ntmps44
    go_wp2_with fail
    refine (parts_any b _ hb).mono ?_
    rintro e w' ⟨rfl, rfl⟩
    go_wp2_with fail
    go_ret
    exact ⟨rfl, rfl⟩
end Go.Proofs.Ytelpdbkkefpjhaa
