/-
Make, the document's rounding by steps, comes to the nearest number: of numbers below 0. Conditions: the digits are below 2^62 and not 0, the place within -1200 and 2000.
-/
import Derived.Test.YtelpdbkkefpjhaaWSm
set_option linter.unusedVariables false
namespace Go.Proofs.Ytelpdbkkefpjhaa
open Go.RowKit
attribute [local go_sem ↓] ib_andNot_sign ib_and_frac ib_and_15 ib_and_1 ib_and_sign ib_and_inf ib_or

set_option maxHeartbeats 1000000 in
theorem make_true (m : Nat) (e : Int) (w : World) (hm0 : m ≠ 0) (hm : m < 4611686018427387904) (he1 : -1200 ≤ e) (he2 : e ≤ 2000) :
    Calls Try.prog 64 #[.bool true, .int .u64 m, .int .i64 e] w fun z w' => z = .returned (.float .f64 (mk true m e)) ∧ w = w' := by
  have t0 : ((m : Int) == 0) = false := by simp; omega
  have t1 : decide (e < -1200) = false := by simp; omega
  have t2 : decide (2000 < e) = false := by simp; omega
  have H0 := Lib.hid hm0
  clear hm0
  go_enter Try.func64, Try.ntmps64
  go_wp2
  go_loop [1, 2] (fun a b => ∃ (M : Nat) (E : Int), a = .int .u64 M ∧ b = .int .i64 E ∧ M < 4611686018427387904 ∧ -1200 ≤ E ∧ E ≤ 2000 ∧ Up1 m e M E) (fun _ b => (intOf b + 1200).toNat)
  case atStart => exact ⟨m, e, rfl, rfl, hm, he1, he2, Up1.start m e⟩
  case round =>
    obtain ⟨M, E, rfl, rfl, hM, hE1, hE2, hP⟩ := hrel
    by_cases c : M < 4503599627370496 ∧ -1074 < E
    · have HP := Lib.hid (hP.step c.1 c.2)
      have b1 : decide ((M : Int) < 4503599627370496) = true := by simp; omega
      have b2 : decide (-1074 < E) = true := by simp; omega
      clear hP
      obtain ⟨c1, c2⟩ := c
      go_wp2
      go_round
      case rel => exact ⟨M * 2, E - 1, by go_num, by go_num, by omega, by omega, by omega, HP.out⟩
      case measure => simp [intOf]; omega
    · have hs := hP.scl
      have h3 : 4503599627370496 ≤ M ∨ E ≤ -1074 := by omega
      have HS := Lib.hid hs
      have H3 := Lib.hid h3
      clear hs h3 hP
      have hb : (decide ((M : Int) < 4503599627370496) = true ∧ decide (-1074 < E) = false) ∨ decide ((M : Int) < 4503599627370496) = false := by simp; omega
      clear c
      rcases hb with ⟨b1, b2⟩ | b1
      all_goals
        go_wp2
        clear b1
        try clear b2
        go_loop [1, 2, 8, 9] (fun a b c d => ∃ (N : Nat) (F : Int) (lost half : Bool), a = .int .u64 N ∧ b = .int .i64 F ∧ c = .bool lost ∧ d = .bool half ∧ N < 4611686018427387904 ∧ -1200 ≤ F ∧ F ≤ 5000 ∧ Down2 M E N F lost half) (fun a b _ _ => (intOf a).toNat + (-1074 - intOf b).toNat)
        case atStart => exact ⟨M, E, false, false, rfl, rfl, rfl, rfl, hM, hE1, by omega, Down2.start M E⟩
        case round =>
          obtain ⟨N, F, lost, half, rfl, rfl, rfl, rfl, hN, hF1, hF2, hD⟩ := hrel
          by_cases c : 9007199254740992 ≤ N ∨ F < -1074
          · have HD := Lib.hid (hD.step c)
            have hF3 : F < 5000 := hD.bound hM hE2 c
            have hp : ((N : Int) % 2 == 1) = decide (N % 2 = 1) := by rw [Bool.eq_iff_iff]; simp; omega
            have hb : decide (9007199254740992 ≤ (N : Int)) = true ∨ (decide (9007199254740992 ≤ (N : Int)) = false ∧ decide (F < -1074) = true) := by simp; omega
            have hms : N / 2 + (-1074 - (F + 1)).toNat < N + (-1074 - F).toNat := by omega
            have HMS := Lib.hid hms
            clear hD c hms
            cases lost
            all_goals
              rcases hb with d1 | ⟨d1, d2⟩
              all_goals
                go_wp2
                go_round
                case rel => exact ⟨N / 2, F + 1, _, _, by go_num, rfl, rfl, rfl, by omega, by omega, by omega, HD.out⟩
                case measure => have := HMS.out; simp [intOf]; omega
          · have hk := hD.scl (by omega) (by omega) H3.out
            rw [← HS.out] at hk
            have hI := Fl.INF_val
            have hbits := mk_true hk.1
            have hN2 : N < 9007199254740992 := by omega
            have hF3 : -1074 ≤ F := by omega
            have hor := hk.2
            have b1 : decide (9007199254740992 ≤ (N : Int)) = false := by simp; omega
            have b2 : decide (F < -1074) = false := by simp; omega
            have hc : (half = false ∧ mk true m e = 9223372036854775808 + min ((F + 1074).toNat * 4503599627370496 + N) 9218868437227405312) ∨
                (half = true ∧ lost = true ∧ mk true m e = 9223372036854775808 + min ((F + 1074).toNat * 4503599627370496 + (N + 1)) 9218868437227405312) ∨
                (half = true ∧ lost = false ∧ ((N : Int) % 2 == 1) = true ∧ mk true m e = 9223372036854775808 + min ((F + 1074).toNat * 4503599627370496 + (N + 1)) 9218868437227405312) ∨
                (half = true ∧ lost = false ∧ ((N : Int) % 2 == 1) = false ∧ mk true m e = 9223372036854775808 + min ((F + 1074).toNat * 4503599627370496 + N) 9218868437227405312) := by
              cases half
              · left; simpa using hbits
              · right
                cases lost
                · right
                  by_cases hp : N % 2 = 1
                  · left; rw [if_pos (by simp [hp])] at hbits; exact ⟨rfl, rfl, by simp; omega, hbits⟩
                  · right; rw [if_neg (by simp [hp])] at hbits; exact ⟨rfl, rfl, by simp; omega, hbits⟩
                · left; rw [if_pos (by simp)] at hbits; exact ⟨rfl, rfl, hbits⟩
            have H0R := Lib.hid hor
            clear hbits hk hD c hor hI
            have hA : ((N : Int) == 9007199254740992) = false := by simp; omega
            have hA2 : decide (2047 ≤ F + 1075) = true ∨ (decide (2047 ≤ F + 1075) = false ∧ (decide ((N : Int) < 4503599627370496) = true ∨ decide ((N : Int) < 4503599627370496) = false)) := by simp; omega
            have hB : (((N : Int) + 1 == 9007199254740992) = true ∧ (decide (2047 ≤ F + 1 + 1075) = true ∨ (decide (2047 ≤ F + 1 + 1075) = false ∧ decide (((N : Int) + 1) / 2 < 4503599627370496) = false))) ∨
                (((N : Int) + 1 == 9007199254740992) = false ∧ (decide (2047 ≤ F + 1075) = true ∨ (decide (2047 ≤ F + 1075) = false ∧ (decide ((N : Int) + 1 < 4503599627370496) = true ∨ decide ((N : Int) + 1 < 4503599627370496) = false)))) := by simp; omega
            rcases hc with ⟨rfl, hb⟩ | ⟨rfl, rfl, hb⟩ | ⟨rfl, rfl, p1, hb⟩ | ⟨rfl, rfl, p1, hb⟩
            · have HB := Lib.hid hb
              clear hb hB
              rcases hA2 with q | ⟨q, q2 | q2⟩
              all_goals
                go_wp2
                go_ret
                refine ⟨ret_float ?_, rfl⟩
                have h1 := HB.out
                have h2 := H0R.out
                rw [h1]
                simp only [decide_eq_true_eq, decide_eq_false_iff_not, beq_eq_false_iff_ne, ne_eq] at *
                try simp only [IntKind.wrap_u64]
                omega
            · have HB := Lib.hid hb
              clear hb hA2 hA
              rcases hB with ⟨q0, q | ⟨q, q2⟩⟩ | ⟨q0, q | ⟨q, q2 | q2⟩⟩
              all_goals
                go_wp2
                go_ret
                refine ⟨ret_float ?_, rfl⟩
                have h1 := HB.out
                have h2 := H0R.out
                rw [h1]
                simp only [decide_eq_true_eq, decide_eq_false_iff_not, beq_iff_eq, beq_eq_false_iff_ne, ne_eq] at *
                try simp only [IntKind.wrap_u64]
                omega
            · have HB := Lib.hid hb
              clear hb hA2 hA
              rcases hB with ⟨q0, q | ⟨q, q2⟩⟩ | ⟨q0, q | ⟨q, q2 | q2⟩⟩
              all_goals
                go_wp2
                go_ret
                refine ⟨ret_float ?_, rfl⟩
                have h1 := HB.out
                have h2 := H0R.out
                rw [h1]
                simp only [decide_eq_true_eq, decide_eq_false_iff_not, beq_iff_eq, beq_eq_false_iff_ne, ne_eq] at *
                try simp only [IntKind.wrap_u64]
                omega
            · have HB := Lib.hid hb
              clear hb hB
              rcases hA2 with q | ⟨q, q2 | q2⟩
              all_goals
                go_wp2
                go_ret
                refine ⟨ret_float ?_, rfl⟩
                have h1 := HB.out
                have h2 := H0R.out
                rw [h1]
                simp only [decide_eq_true_eq, decide_eq_false_iff_not, beq_eq_false_iff_ne, ne_eq] at *
                try simp only [IntKind.wrap_u64]
                omega
end Go.Proofs.Ytelpdbkkefpjhaa
/-
Make, the document's rounding, comes to the nearest number. Conditions: the digits are below 2^62, the place far from the ends of int.
-/
set_option linter.unusedVariables false
namespace Go.Proofs.Ytelpdbkkefpjhaa
open Go.RowKit
attribute [local go_sem ↓] ib_andNot_sign ib_and_frac ib_and_15 ib_and_1 ib_and_sign ib_and_inf ib_or

theorem make_any (neg : Bool) (m : Nat) (e : Int) (w : World) (hm : m < 4611686018427387904) (he1 : -9000000000000000000 ≤ e) (he2 : e ≤ 9000000000000000000) :
    Calls Try.prog 64 #[.bool neg, .int .u64 m, .int .i64 e] w fun z w' => z = .returned (.float .f64 (mk neg m e)) ∧ w = w' := by
  by_cases h0 : m = 0
  · have t0 : ((m : Int) == 0) = true := by simp [h0]
    have hk : mk neg m e = Fl.wd neg 0 := by unfold mk; rw [h0, Fl.scl_zero]
    rw [hk]
    clear hk h0
    cases neg
    all_goals
      go_enter Try.func64, Try.ntmps64
      go_wp2
      go_ret
      exact ⟨rfl, rfl⟩
  · have t0 : ((m : Int) == 0) = false := by simp; omega
    by_cases h1 : e < -1200
    · have t1 : decide (e < -1200) = true := by simp [h1]
      have hk : mk neg m e = Fl.wd neg 0 := by
        unfold mk
        rw [Fl.scl_low _ _ ?_ (by omega)]
        have : 2 ^ 63 ≤ 2 ^ (-(e + 1074)).toNat := Nat.pow_le_pow_right (by omega) (by omega)
        omega
      rw [hk]
      clear hk h1 h0
      cases neg
      all_goals
        go_enter Try.func64, Try.ntmps64
        go_wp2
        go_ret
        exact ⟨rfl, rfl⟩
    · by_cases h2 : 2000 < e
      · have t1 : decide (e < -1200) = false := by simp; omega
        have t2 : decide (2000 < e) = true := by simp [h2]
        have hk : mk neg m e = Fl.wd neg 9218868437227405312 := by
          unfold mk
          rw [Fl.scl_high _ _ h0 (by omega), Fl.INF_val]
        have hw : Fl.wd false 9218868437227405312 = 9218868437227405312 ∧ Fl.wd true 9218868437227405312 = 18442240474082181120 := by unfold Fl.wd; simp
        rw [hk]
        clear hk h1 h0 h2
        have HW := Lib.hid hw
        clear hw
        cases neg
        all_goals
          go_enter Try.func64, Try.ntmps64
          go_wp2
          go_ret
          refine ⟨ret_float ?_, rfl⟩
          first | (rw [HW.out.1]; done) | (rw [HW.out.2]; done) | (rw [HW.out.1]; rfl) | (rw [HW.out.2]; rfl)
      · cases neg
        · exact make_false m e w h0 hm (by omega) (by omega)
        · exact make_true m e w h0 hm (by omega) (by omega)
end Go.Proofs.Ytelpdbkkefpjhaa
/-
What Two, Up, Down come to, and the document's Same, Finite, Exp, Scale, Up. Conditions: the words are below 2^64.
-/
set_option linter.unusedVariables false
namespace Go.Proofs.Ytelpdbkkefpjhaa
open Go.RowKit
attribute [local go_sem ↓] ib_andNot_sign ib_and_frac ib_and_15 ib_and_1 ib_and_sign ib_and_inf ib_or

/-- A word with the other sign. -/
def negB (b : Nat) : Nat := Op.negFloat .f64 b
theorem unary_neg (b : Nat) : Op.unary .neg (.float .f64 b) = pure (.float .f64 (negB b)) := rfl
attribute [go_sem ↓] unary_neg
end Go.Proofs.Ytelpdbkkefpjhaa
