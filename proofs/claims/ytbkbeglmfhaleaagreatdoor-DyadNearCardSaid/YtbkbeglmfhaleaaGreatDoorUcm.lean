/-
Make, the document's rounding, comes to the nearest number. Conditions: the digits are below 2^62, the place far from the ends of int.
-/
import Derived.Test.YtbkbeglmfhaleaaGreatDoorUcl
set_option linter.unusedVariables false
namespace Go.Proofs.YtbkbeglmfhaleaaGreatDoor
open Go.RowKit
attribute [local go_sem ↓] ib_andNot_sign ib_and_frac ib_and_15 ib_and_1 ib_and_sign ib_and_inf ib_or

theorem make_any (neg : Bool) (m : Nat) (e : Int) (w : World) (hm : m < 4611686018427387904) (he1 : -9000000000000000000 ≤ e) (he2 : e ≤ 9000000000000000000) :
    Calls Tryz.prog 64 #[.bool neg, .int .u64 m, .int .i64 e] w fun z w' => z = .returned (.float .f64 (mk neg m e)) ∧ w = w' := by
  by_cases h0 : m = 0
  · have t0 : ((m : Int) == 0) = true := by simp [h0]
    have hk : mk neg m e = Fl.wd neg 0 := by unfold mk; rw [h0, Fl.scl_zero]
    rw [hk]
    clear hk h0
    cases neg
    all_goals
      go_enter Tryz.func64, Tryz.ntmps64
      go_wp2
      go_ret
      exact ⟨rfl, rfl⟩
  · have t0 : ((m : Int) == 0) = false := by simp; omega
    by_cases h1 : e < -1200
    · have t1 : decide (e < -1200) = true := by simp [h1]
      have hk : mk neg m e = Fl.wd neg 0 := by
        unfold mk
        rw [Fl.scl_low _ _ ?_ (by omega)]
        have : 2 ^ 63 ≤ 2 ^ (-(e + 1074)).toNat := Nat.pow_le_pow_right (by omega) (by omega)
        omega
      rw [hk]
      clear hk h1 h0
      cases neg
      all_goals
        go_enter Tryz.func64, Tryz.ntmps64
        go_wp2
        go_ret
        exact ⟨rfl, rfl⟩
    · by_cases h2 : 2000 < e
      · have t1 : decide (e < -1200) = false := by simp; omega
        have t2 : decide (2000 < e) = true := by simp [h2]
        have hk : mk neg m e = Fl.wd neg 9218868437227405312 := by
          unfold mk
          rw [Fl.scl_high _ _ h0 (by omega), Fl.INF_val]
        have hw : Fl.wd false 9218868437227405312 = 9218868437227405312 ∧ Fl.wd true 9218868437227405312 = 18442240474082181120 := by unfold Fl.wd; simp
        rw [hk]
        clear hk h1 h0 h2
        have HW := Lib.hid hw
        clear hw
        cases neg
        all_goals
          go_enter Tryz.func64, Tryz.ntmps64
          go_wp2
          go_ret
          refine ⟨ret_float ?_, rfl⟩
          first | (rw [HW.out.1]; done) | (rw [HW.out.2]; done) | (rw [HW.out.1]; rfl) | (rw [HW.out.2]; rfl)
      · cases neg
        · exact make_false m e w h0 hm (by omega) (by omega)
        · exact make_true m e w h0 hm (by omega) (by omega)
end Go.Proofs.YtbkbeglmfhaleaaGreatDoor
/-
What Two, Up, Down come to, and the document's Same, Finite, Exp, Scale, Up. Conditions: the words are below 2^64.
-/
set_option linter.unusedVariables false
namespace Go.Proofs.YtbkbeglmfhaleaaGreatDoor
open Go.RowKit
attribute [local go_sem ↓] ib_andNot_sign ib_and_frac ib_and_15 ib_and_1 ib_and_sign ib_and_inf ib_or

/-- The word above. -/
def upB (b : Nat) : Nat := if Fl.INF < Fl.rung b ∨ b = Fl.INF then b else if Fl.rung b = 0 then 1 else if Fl.sg b then b - 1 else b + 1

theorem sg_true {b : Nat} (h : Fl.sg b = true) : 9223372036854775808 ≤ b := by
  unfold Fl.sg at h; simp at h; omega

/-- A word with the other sign. -/
def negB (b : Nat) : Nat := Op.negFloat .f64 b
theorem unary_neg (b : Nat) : Op.unary .neg (.float .f64 b) = pure (.float .f64 (negB b)) := rfl
attribute [go_sem ↓] unary_neg
theorem xor_sign {r : Nat} (h : r < 9223372036854775808) : r ^^^ 2 ^ 63 = 2 ^ 63 + r := by
  refine Nat.eq_of_testBit_eq fun i => ?_
  rw [Nat.testBit_xor, Nat.testBit_two_pow]
  rcases Nat.lt_trichotomy i 63 with h1 | h1 | h1
  · rw [Nat.testBit_two_pow_add_gt h1]
    have : decide (63 = i) = false := by simp; omega
    rw [this]; simp
  · subst h1
    rw [Nat.testBit_two_pow_add_eq]; simp
  · have h2 : 2 ^ 64 ≤ 2 ^ i := Nat.pow_le_pow_right (by omega) (by omega)
    rw [Nat.testBit_lt_two_pow (by omega), Nat.testBit_lt_two_pow (by omega)]
    simp; omega
theorem negB_eq {b : Nat} (hb : b < 18446744073709551616) : negB b = Fl.wd (!Fl.sg b) (Fl.rung b) := by
  show b ^^^ 2 ^ 63 = _
  have hr := rung_def b
  cases hs : Fl.sg b
  · have : b < 9223372036854775808 := by unfold Fl.sg at hs; simp at hs; omega
    rw [xor_sign this, show Fl.rung b = b by omega]
    simp [Fl.wd]
  · have h1 := sg_true hs
    have h2 : b = 2 ^ 63 + Fl.rung b := by omega
    have h3 := xor_sign (Fl.rung_lt b)
    rw [← h3] at h2
    rw [h2, Nat.xor_assoc, Nat.xor_self, Nat.xor_zero, h3]
    have : Fl.rung (2 ^ 63 + Fl.rung b) = Fl.rung b := by rw [rung_def, rung_def]; omega
    rw [this]
    simp [Fl.wd]
theorem negB_lt {b : Nat} (hb : b < 18446744073709551616) : negB b < 18446744073709551616 := by rw [negB_eq hb]; exact Fl.wd_lt _ (Fl.rung_lt b)
theorem upB_lt {b : Nat} (hb : b < 18446744073709551616) : upB b < 18446744073709551616 := by
  have hr := rung_def b
  have hI := Fl.INF_val
  unfold upB; split
  · exact hb
  · split
    · omega
    · split
      · omega
      · rename_i h1 h2 h3
        have : b < 9223372036854775808 := by unfold Fl.sg at h3; simp at h3; omega
        omega

/-- The document's Same. -/
theorem rsame_any (a b : Nat) (w : World) (ha : a < 18446744073709551616) (hb : b < 18446744073709551616) :
    Calls Tryz.prog 23 #[.float .f64 a, .float .f64 b] w fun e w' => e = .returned (.bool (sameB a b)) ∧ w = w' := by
  have k2 : ∀ x, (kindOf x == 2) = Fl.nan x := by
    intro x
    unfold kindOf Fl.nan
    rw [Bool.eq_iff_iff, beq_iff_eq, decide_eq_true_eq]
    split
    · omega
    · split <;> omega
  have ka := k2 a
  have kb := k2 b
  clear k2
  have hc : (((a : Int) == (b : Int)) = true ∧ sameB a b = true) ∨ (((a : Int) == (b : Int)) = false ∧ ((Fl.nan a = true ∧ sameB a b = Fl.nan b) ∨ (Fl.nan a = false ∧ sameB a b = false))) := by
    by_cases h : a = b
    · exact .inl ⟨by simp [h], by simp [sameB, h]⟩
    · refine .inr ⟨by simp; omega, ?_⟩
      cases hn : Fl.nan a
      · exact .inr ⟨rfl, by simp [sameB, h, hn]⟩
      · exact .inl ⟨rfl, by simp [sameB, h, hn]⟩
  rcases hc with ⟨h1, h2⟩ | ⟨h1, ⟨h3, h2⟩ | ⟨h3, h2⟩⟩
  all_goals
    rw [h2]
    try rw [h3] at ka
    clear h2
    try clear h3
    go_enter Tryz.func23, Tryz.ntmps23
    go_wp2_with fail
    refine (parts_any a _ ha).mono ?_
    rintro e w' ⟨rfl, rfl⟩
    go_wp2_with fail
    refine (parts_any b _ hb).mono ?_
    rintro e w' ⟨rfl, rfl⟩
    go_wp2
    go_ret
    exact ⟨rfl, rfl⟩

theorem kind_cases (b : Nat) : ((kindOf b != 0) = true ∧ expOf b = 0) ∨ ((kindOf b != 0) = false ∧ (partM b == 0) = true ∧ expOf b = 0) ∨
      ((kindOf b != 0) = false ∧ (partM b == 0) = false ∧ ∃ (m : Nat) (u : Nat), partM b = m ∧ m ≠ 0 ∧ m < 9007199254740992 ∧ u ≤ 2045 ∧ partE b = (u : Int) - 1074 ∧ expOf b = (m.log2 : Int) + (u : Int) - 1074) := by
  have hp := Fl.rung_parts b
  have hl := Fl.pm_lt b
  have hq := Fl.pm_pe b
  unfold kindOf partM partE expOf
  by_cases h1 : Fl.rung b < Fl.INF
  · have hu := Fl.pe_lt h1
    rw [if_pos h1, if_pos h1, if_pos h1]
    right
    by_cases h2 : Fl.pm b = 0
    · left; refine ⟨rfl, by simp [h2], if_pos (.inl (by omega))⟩
    · right; refine ⟨rfl, by simp; omega, Fl.pm b, Fl.pe b, rfl, h2, hl, hu, rfl, if_neg (by omega)⟩
  · left
    rw [if_neg h1]
    refine ⟨?_, if_pos (.inr (by omega))⟩
    split <;> rfl

end Go.Proofs.YtbkbeglmfhaleaaGreatDoor
