/-
What Two, Up, Down come to, and the document's Same, Finite, Exp, Scale, Up. Conditions: the words are below 2^64.
-/
import Derived.Test.YtelpdbkkefpjhaaFMakeM
set_option linter.unusedVariables false
namespace Go.Proofs.Ytelpdbkkefpjhaa
open Go.RowKit
attribute [local go_sem ↓] ib_andNot_sign ib_and_frac ib_and_15 ib_and_1 ib_and_sign ib_and_inf ib_or

/-- A word with the other sign. -/
def negB (b : Nat) : Nat := Op.negFloat .f64 b
theorem unary_neg (b : Nat) : Op.unary .neg (.float .f64 b) = pure (.float .f64 (negB b)) := rfl
attribute [go_sem ↓] unary_neg
theorem kind_cases (b : Nat) : ((kindOf b != 0) = true ∧ expOf b = 0) ∨ ((kindOf b != 0) = false ∧ (partM b == 0) = true ∧ expOf b = 0) ∨
      ((kindOf b != 0) = false ∧ (partM b == 0) = false ∧ ∃ (m : Nat) (u : Nat), partM b = m ∧ m ≠ 0 ∧ m < 9007199254740992 ∧ u ≤ 2045 ∧ partE b = (u : Int) - 1074 ∧ expOf b = (m.log2 : Int) + (u : Int) - 1074) := by
  have hp := Fl.rung_parts b
  have hl := Fl.pm_lt b
  have hq := Fl.pm_pe b
  unfold kindOf partM partE expOf
  by_cases h1 : Fl.rung b < Fl.INF
  · have hu := Fl.pe_lt h1
    rw [if_pos h1, if_pos h1, if_pos h1]
    right
    by_cases h2 : Fl.pm b = 0
    · left; refine ⟨rfl, by simp [h2], if_pos (.inl (by omega))⟩
    · right; refine ⟨rfl, by simp; omega, Fl.pm b, Fl.pe b, rfl, h2, hl, hu, rfl, if_neg (by omega)⟩
  · left
    rw [if_neg h1]
    refine ⟨?_, if_pos (.inr (by omega))⟩
    split <;> rfl

theorem rexp_any (b : Nat) (w : World) (hb : b < 18446744073709551616) :
    Calls Try.prog 36 #[.float .f64 b] w fun e w' => e = .returned (.int .i64 (expOf b)) ∧ w = w' := by
  have hc := kind_cases b
  rcases hc with ⟨h1, h2⟩ | ⟨h1, h2, h3⟩ | ⟨h1, h2, m, u, hm, hm0, hm1, hu, he, hx⟩
  · rw [h2]
    clear h2
    go_enter Try.func36, Try.ntmps36
    go_wp2_with fail
    refine (parts_any b _ hb).mono ?_
    rintro e w' ⟨rfl, rfl⟩
    go_wp2
    go_ret
    exact ⟨rfl, rfl⟩
  · rw [h3]
    clear h3
    go_enter Try.func36, Try.ntmps36
    go_wp2_with fail
    refine (parts_any b _ hb).mono ?_
    rintro e w' ⟨rfl, rfl⟩
    go_wp2
    go_ret
    exact ⟨rfl, rfl⟩
  · rw [hx]
    rw [hm] at h2
    have HM := Lib.hid hm
    have HE := Lib.hid he
    clear hm he hx
    go_enter Try.func36, Try.ntmps36
    go_wp2_with fail
    refine (parts_any b _ hb).mono ?_
    rintro e w' ⟨rfl, rfl⟩
    rw [HM.out, HE.out]
    go_wp2
    go_loop [4, 5] (fun a c => ∃ j : Nat, j ≤ m.log2 ∧ a = .int .u64 ((m / 2 ^ j : Nat) : Int) ∧ c = .int .i64 ((u : Int) - 1074 + j)) (fun a _ => (intOf a).toNat)
    case atStart => exact ⟨0, by omega, by simp, by simp⟩
    case round =>
      obtain ⟨j, hj, rfl, rfl⟩ := hrel
      by_cases hlt : j < m.log2
      · have h2 : 2 ≤ m / 2 ^ j := by
          have hp : 0 < 2 ^ j := Nat.two_pow_pos j
          rw [Nat.le_div_iff_mul_le hp]
          have h3 : 2 ^ (j + 1) ≤ 2 ^ m.log2 := Nat.pow_le_pow_right (by omega) (by omega)
          have := Nat.log2_self_le hm0
          rw [Nat.pow_succ] at h3
          omega
        have h4 : m / 2 ^ (j + 1) = m / 2 ^ j / 2 := by rw [Nat.pow_succ, Nat.div_div_eq_div_mul]
        have hle : m / 2 ^ j ≤ m := Nat.div_le_self _ _
        have hjl : m.log2 < 53 := (Nat.log2_lt hm0).2 hm1
        generalize m / 2 ^ j = Q at *
        have H4 := Lib.hid h4
        clear h4
        have hd : decide (1 < (Q : Int)) = true := by simp; omega
        go_wp2
        go_round
        case rel => exact ⟨j + 1, by omega, by rw [H4.out]; go_num, by go_num⟩
        case measure => simp [intOf]; omega
      · obtain rfl : j = m.log2 := by omega
        have h2 : m / 2 ^ m.log2 = 1 := by
          have hp : 0 < 2 ^ m.log2 := Nat.two_pow_pos _
          have a := Nat.log2_self_le hm0
          have b : m < 2 ^ (m.log2 + 1) := Nat.lt_log2_self
          rw [Nat.pow_succ] at b
          exact Nat.div_eq_of_lt_le (by omega) (by omega)
        rw [h2]
        have hjl : m.log2 < 53 := (Nat.log2_lt hm0).2 hm1
        clear h2
        go_wp2
        go_ret
        exact ⟨ret_int (by omega), rfl⟩
end Go.Proofs.Ytelpdbkkefpjhaa
