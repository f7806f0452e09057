/-
What Two, Up, Down come to, and the document's Same, Finite, Exp, Scale, Up. Conditions: the words are below 2^64.
-/
import Derived.Test.YtgghpidfkcbbdaaNumE
set_option linter.unusedVariables false
namespace Go.Proofs.Ytgghpidfkcbbdaa
open Go.RowKit
attribute [local go_sem ↓] ib_andNot_sign ib_and_frac ib_and_15 ib_and_1 ib_and_sign ib_and_inf ib_or

theorem two_any (k : Int) (w : World) :
    Calls Try.prog 18 #[.int .i64 k] w fun e w' => e = .returned (.float .f64 (Fl.scale 4607182418800017408 k)) ∧ Below w.heap.size w w' := by
  go_enter Try.func18, Try.ntmps18
  go_wp2_with fail
  refine (scale_any 4607182418800017408 k _ (by omega)).mono ?_
  rintro e w' ⟨rfl, hbl⟩
  go_wp2_with fail
  go_ret
  exact ⟨rfl, hbl⟩

/-- The word above. -/
def upB (b : Nat) : Nat := if Fl.INF < Fl.rung b ∨ b = Fl.INF then b else if Fl.rung b = 0 then 1 else if Fl.sg b then b - 1 else b + 1

theorem sg_true {b : Nat} (h : Fl.sg b = true) : 9223372036854775808 ≤ b := by
  unfold Fl.sg at h; simp at h; omega

theorem up_any (b : Nat) (w : World) (hb : b < 18446744073709551616) :
    Calls Try.prog 19 #[.float .f64 b] w fun e w' => e = .returned (.float .f64 (upB b)) ∧ w = w' := by
  have hn := nan_self b
  have hz := eql_zero b
  have hl := lss_zero b
  by_cases h1 : Fl.INF < Fl.rung b
  · have e1 : Fl.nan b = true := decide_eq_true h1
    have hu : upB b = b := by unfold upB; rw [if_pos (.inl h1)]
    rw [hu]; rw [e1] at hn
    clear hu e1 h1 hz hl
    go_enter Try.func19, Try.ntmps19
    go_wp2
    go_ret
    exact ⟨rfl, rfl⟩
  · have e1 : Fl.nan b = false := decide_eq_false h1
    rw [e1] at hn
    by_cases h2 : b = Fl.INF
    · have hu : upB b = b := by unfold upB; rw [if_pos (.inr h2)]
      have e2 : ((b : Int) == 9218868437227405312) = true := by rw [Fl.INF_val] at h2; simp [h2]
      rw [hu]
      clear hu e1 h1 h2 hz hl
      go_enter Try.func19, Try.ntmps19
      go_wp2
      go_ret
      exact ⟨rfl, rfl⟩
    · have e2 : ((b : Int) == 9218868437227405312) = false := by rw [Fl.INF_val] at h2; simp; omega
      by_cases h3 : Fl.rung b = 0
      · have hu : upB b = 1 := by unfold upB; rw [if_neg (by omega), if_pos h3]
        rw [hu]; rw [decide_eq_true h3] at hz
        clear hu e1 h1 h2 hl h3
        go_enter Try.func19, Try.ntmps19
        go_wp2
        go_ret
        exact ⟨rfl, rfl⟩
      · rw [decide_eq_false h3] at hz
        rw [decide_eq_true (show Fl.rung b ≠ 0 ∧ Fl.rung b ≤ Fl.INF from ⟨h3, by omega⟩), Bool.true_and] at hl
        by_cases h4 : Fl.sg b = true
        · have hu : upB b = b - 1 := by unfold upB; rw [if_neg (by omega), if_neg h3, if_pos h4]
          have hg := sg_true h4
          rw [hu]; rw [h4] at hl
          clear hu e1 h1 h2 h3 h4
          go_enter Try.func19, Try.ntmps19
          go_wp2
          go_ret
          exact ⟨ret_float (by omega), rfl⟩
        · have h5 : Fl.sg b = false := by simpa using h4
          have hu : upB b = b + 1 := by unfold upB; rw [if_neg (by omega), if_neg h3, if_neg h4]
          have hr := rung_def b
          have hI := Fl.INF_val
          have hg : b < 9223372036854775808 := by unfold Fl.sg at h5; simp at h5; omega
          rw [hu]; rw [h5] at hl
          clear hu e1 h1 h2 h3 h4 h5 hr hI
          go_enter Try.func19, Try.ntmps19
          go_wp2
          go_ret
          exact ⟨ret_float (by omega), rfl⟩

/-- A word with the other sign. -/
def negB (b : Nat) : Nat := Op.negFloat .f64 b
theorem unary_neg (b : Nat) : Op.unary .neg (.float .f64 b) = pure (.float .f64 (negB b)) := rfl
attribute [go_sem ↓] unary_neg
theorem xor_sign {r : Nat} (h : r < 9223372036854775808) : r ^^^ 2 ^ 63 = 2 ^ 63 + r := by
  refine Nat.eq_of_testBit_eq fun i => ?_
  rw [Nat.testBit_xor, Nat.testBit_two_pow]
  rcases Nat.lt_trichotomy i 63 with h1 | h1 | h1
  · rw [Nat.testBit_two_pow_add_gt h1]
    have : decide (63 = i) = false := by simp; omega
    rw [this]; simp
  · subst h1
    rw [Nat.testBit_two_pow_add_eq]; simp
  · have h2 : 2 ^ 64 ≤ 2 ^ i := Nat.pow_le_pow_right (by omega) (by omega)
    rw [Nat.testBit_lt_two_pow (by omega), Nat.testBit_lt_two_pow (by omega)]
    simp; omega
theorem negB_eq {b : Nat} (hb : b < 18446744073709551616) : negB b = Fl.wd (!Fl.sg b) (Fl.rung b) := by
  show b ^^^ 2 ^ 63 = _
  have hr := rung_def b
  cases hs : Fl.sg b
  · have : b < 9223372036854775808 := by unfold Fl.sg at hs; simp at hs; omega
    rw [xor_sign this, show Fl.rung b = b by omega]
    simp [Fl.wd]
  · have h1 := sg_true hs
    have h2 : b = 2 ^ 63 + Fl.rung b := by omega
    have h3 := xor_sign (Fl.rung_lt b)
    rw [← h3] at h2
    rw [h2, Nat.xor_assoc, Nat.xor_self, Nat.xor_zero, h3]
    have : Fl.rung (2 ^ 63 + Fl.rung b) = Fl.rung b := by rw [rung_def, rung_def]; omega
    rw [this]
    simp [Fl.wd]
theorem negB_lt {b : Nat} (hb : b < 18446744073709551616) : negB b < 18446744073709551616 := by rw [negB_eq hb]; exact Fl.wd_lt _ (Fl.rung_lt b)
theorem upB_lt {b : Nat} (hb : b < 18446744073709551616) : upB b < 18446744073709551616 := by
  have hr := rung_def b
  have hI := Fl.INF_val
  unfold upB; split
  · exact hb
  · split
    · omega
    · split
      · omega
      · rename_i h1 h2 h3
        have : b < 9223372036854775808 := by unfold Fl.sg at h3; simp at h3; omega
        omega

theorem down_any (b : Nat) (w : World) (hb : b < 18446744073709551616) :
    Calls Try.prog 20 #[.float .f64 b] w fun e w' => e = .returned (.float .f64 (negB (upB (negB b)))) ∧ w = w' := by
  go_enter Try.func20, Try.ntmps20
  go_wp2_with fail
  refine (up_any _ _ (negB_lt hb)).mono ?_
  rintro e w' ⟨rfl, rfl⟩
  go_wp2_with fail
  go_ret
  exact ⟨rfl, rfl⟩

/-- The document's Same. -/
theorem rsame_any (a b : Nat) (w : World) (ha : a < 18446744073709551616) (hb : b < 18446744073709551616) :
    Calls Try.prog 11 #[.float .f64 a, .float .f64 b] w fun e w' => e = .returned (.bool (sameB a b)) ∧ w = w' := by
  have k2 : ∀ x, (kindOf x == 2) = Fl.nan x := by
    intro x
    unfold kindOf Fl.nan
    rw [Bool.eq_iff_iff, beq_iff_eq, decide_eq_true_eq]
    split
    · omega
    · split <;> omega
  have ka := k2 a
  have kb := k2 b
  clear k2
  have hc : (((a : Int) == (b : Int)) = true ∧ sameB a b = true) ∨ (((a : Int) == (b : Int)) = false ∧ ((Fl.nan a = true ∧ sameB a b = Fl.nan b) ∨ (Fl.nan a = false ∧ sameB a b = false))) := by
    by_cases h : a = b
    · exact .inl ⟨by simp [h], by simp [sameB, h]⟩
    · refine .inr ⟨by simp; omega, ?_⟩
      cases hn : Fl.nan a
      · exact .inr ⟨rfl, by simp [sameB, h, hn]⟩
      · exact .inl ⟨rfl, by simp [sameB, h, hn]⟩
  rcases hc with ⟨h1, h2⟩ | ⟨h1, ⟨h3, h2⟩ | ⟨h3, h2⟩⟩
  all_goals
    rw [h2]
    try rw [h3] at ka
    clear h2
    try clear h3
    go_enter Try.func11, Try.ntmps11
    go_wp2_with fail
    refine (parts_any a _ ha).mono ?_
    rintro e w' ⟨rfl, rfl⟩
    go_wp2_with fail
    refine (parts_any b _ hb).mono ?_
    rintro e w' ⟨rfl, rfl⟩
    go_wp2
    go_ret
    exact ⟨rfl, rfl⟩

theorem kind_cases (b : Nat) : ((kindOf b != 0) = true ∧ expOf b = 0) ∨ ((kindOf b != 0) = false ∧ (partM b == 0) = true ∧ expOf b = 0) ∨
      ((kindOf b != 0) = false ∧ (partM b == 0) = false ∧ ∃ (m : Nat) (u : Nat), partM b = m ∧ m ≠ 0 ∧ m < 9007199254740992 ∧ u ≤ 2045 ∧ partE b = (u : Int) - 1074 ∧ expOf b = (m.log2 : Int) + (u : Int) - 1074) := by
  have hp := Fl.rung_parts b
  have hl := Fl.pm_lt b
  have hq := Fl.pm_pe b
  unfold kindOf partM partE expOf
  by_cases h1 : Fl.rung b < Fl.INF
  · have hu := Fl.pe_lt h1
    rw [if_pos h1, if_pos h1, if_pos h1]
    right
    by_cases h2 : Fl.pm b = 0
    · left; refine ⟨rfl, by simp [h2], if_pos (.inl (by omega))⟩
    · right; refine ⟨rfl, by simp; omega, Fl.pm b, Fl.pe b, rfl, h2, hl, hu, rfl, if_neg (by omega)⟩
  · left
    rw [if_neg h1]
    refine ⟨?_, if_pos (.inr (by omega))⟩
    split <;> rfl

theorem rexp_any (b : Nat) (w : World) (hb : b < 18446744073709551616) :
    Calls Try.prog 15 #[.float .f64 b] w fun e w' => e = .returned (.int .i64 (expOf b)) ∧ w = w' := by
  have hc := kind_cases b
  rcases hc with ⟨h1, h2⟩ | ⟨h1, h2, h3⟩ | ⟨h1, h2, m, u, hm, hm0, hm1, hu, he, hx⟩
  · rw [h2]
    clear h2
    go_enter Try.func15, Try.ntmps15
    go_wp2_with fail
    refine (parts_any b _ hb).mono ?_
    rintro e w' ⟨rfl, rfl⟩
    go_wp2
    go_ret
    exact ⟨rfl, rfl⟩
  · rw [h3]
    clear h3
    go_enter Try.func15, Try.ntmps15
    go_wp2_with fail
    refine (parts_any b _ hb).mono ?_
    rintro e w' ⟨rfl, rfl⟩
    go_wp2
    go_ret
    exact ⟨rfl, rfl⟩
  · rw [hx]
    rw [hm] at h2
    have HM := Lib.hid hm
    have HE := Lib.hid he
    clear hm he hx
    go_enter Try.func15, Try.ntmps15
    go_wp2_with fail
    refine (parts_any b _ hb).mono ?_
    rintro e w' ⟨rfl, rfl⟩
    rw [HM.out, HE.out]
    go_wp2
    go_loop [4, 5] (fun a c => ∃ j : Nat, j ≤ m.log2 ∧ a = .int .u64 ((m / 2 ^ j : Nat) : Int) ∧ c = .int .i64 ((u : Int) - 1074 + j)) (fun a _ => (intOf a).toNat)
    case atStart => exact ⟨0, by omega, by simp, by simp⟩
    case round =>
      obtain ⟨j, hj, rfl, rfl⟩ := hrel
      by_cases hlt : j < m.log2
      · have h2 : 2 ≤ m / 2 ^ j := by
          have hp : 0 < 2 ^ j := Nat.two_pow_pos j
          rw [Nat.le_div_iff_mul_le hp]
          have h3 : 2 ^ (j + 1) ≤ 2 ^ m.log2 := Nat.pow_le_pow_right (by omega) (by omega)
          have := Nat.log2_self_le hm0
          rw [Nat.pow_succ] at h3
          omega
        have h4 : m / 2 ^ (j + 1) = m / 2 ^ j / 2 := by rw [Nat.pow_succ, Nat.div_div_eq_div_mul]
        have hle : m / 2 ^ j ≤ m := Nat.div_le_self _ _
        have hjl : m.log2 < 53 := (Nat.log2_lt hm0).2 hm1
        generalize m / 2 ^ j = Q at *
        have H4 := Lib.hid h4
        clear h4
        have hd : decide (1 < (Q : Int)) = true := by simp; omega
        go_wp2
        go_round
        case rel => exact ⟨j + 1, by omega, by rw [H4.out]; go_num, by go_num⟩
        case measure => simp [intOf]; omega
      · obtain rfl : j = m.log2 := by omega
        have h2 : m / 2 ^ m.log2 = 1 := by
          have hp : 0 < 2 ^ m.log2 := Nat.two_pow_pos _
          have a := Nat.log2_self_le hm0
          have b : m < 2 ^ (m.log2 + 1) := Nat.lt_log2_self
          rw [Nat.pow_succ] at b
          exact Nat.div_eq_of_lt_le (by omega) (by omega)
        rw [h2]
        have hjl : m.log2 < 53 := (Nat.log2_lt hm0).2 hm1
        clear h2
        go_wp2
        go_ret
        exact ⟨ret_int (by omega), rfl⟩
end Go.Proofs.Ytgghpidfkcbbdaa
