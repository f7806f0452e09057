/-
Make, the document's rounding, comes to the nearest number. Conditions: the digits are below 2^62, the place far from the ends of int.
-/
import Derived.Test.YtgghpidfkcbbdaaMakeF
import Derived.Test.YtgghpidfkcbbdaaMakeT
set_option linter.unusedVariables false
namespace Go.Proofs.Ytgghpidfkcbbdaa
open Go.RowKit
attribute [local go_sem ↓] ib_andNot_sign ib_and_frac ib_and_15 ib_and_1 ib_and_sign ib_and_inf ib_or

theorem make_any (neg : Bool) (m : Nat) (e : Int) (w : World) (hm : m < 4611686018427387904) (he1 : -9000000000000000000 ≤ e) (he2 : e ≤ 9000000000000000000) :
    Calls Try.prog 31 #[.bool neg, .int .u64 m, .int .i64 e] w fun z w' => z = .returned (.float .f64 (mk neg m e)) ∧ w = w' := by
  by_cases h0 : m = 0
  · have t0 : ((m : Int) == 0) = true := by simp [h0]
    have hk : mk neg m e = Fl.wd neg 0 := by unfold mk; rw [h0, Fl.scl_zero]
    rw [hk]
    clear hk h0
    cases neg
    all_goals
      go_enter Try.func31, Try.ntmps31
      go_wp2
      go_ret
      exact ⟨rfl, rfl⟩
  · have t0 : ((m : Int) == 0) = false := by simp; omega
    by_cases h1 : e < -1200
    · have t1 : decide (e < -1200) = true := by simp [h1]
      have hk : mk neg m e = Fl.wd neg 0 := by
        unfold mk
        rw [Fl.scl_low _ _ ?_ (by omega)]
        have : 2 ^ 63 ≤ 2 ^ (-(e + 1074)).toNat := Nat.pow_le_pow_right (by omega) (by omega)
        omega
      rw [hk]
      clear hk h1 h0
      cases neg
      all_goals
        go_enter Try.func31, Try.ntmps31
        go_wp2
        go_ret
        exact ⟨rfl, rfl⟩
    · by_cases h2 : 2000 < e
      · have t1 : decide (e < -1200) = false := by simp; omega
        have t2 : decide (2000 < e) = true := by simp [h2]
        have hk : mk neg m e = Fl.wd neg 9218868437227405312 := by
          unfold mk
          rw [Fl.scl_high _ _ h0 (by omega), Fl.INF_val]
        have hw : Fl.wd false 9218868437227405312 = 9218868437227405312 ∧ Fl.wd true 9218868437227405312 = 18442240474082181120 := by unfold Fl.wd; simp
        rw [hk]
        clear hk h1 h0 h2
        have HW := Lib.hid hw
        clear hw
        cases neg
        all_goals
          go_enter Try.func31, Try.ntmps31
          go_wp2
          go_ret
          refine ⟨ret_float ?_, rfl⟩
          first | (rw [HW.out.1]; done) | (rw [HW.out.2]; done) | (rw [HW.out.1]; rfl) | (rw [HW.out.2]; rfl)
      · cases neg
        · exact make_false m e w h0 hm (by omega) (by omega)
        · exact make_true m e w h0 hm (by omega) (by omega)
end Go.Proofs.Ytgghpidfkcbbdaa
