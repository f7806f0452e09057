/-
Scale comes to the nearest number. Conditions: the word is below 2^64.
-/
import Derived.Test.YtelpdbkkefpjhaaWSf
import Derived.Deep.DeepCutAuto
set_option linter.unusedVariables false
namespace Go.Proofs.Ytelpdbkkefpjhaa
open Go.RowKit
attribute [local go_sem ↓] ib_andNot_sign ib_and_frac ib_and_15 ib_and_1 ib_and_sign ib_and_inf ib_or

theorem orU_sign {b r : Nat} (hr : r < 9223372036854775808) : orU (signOf (b : Int)) (r : Int) = ((Fl.wd (Fl.sg b) r : Nat) : Int) := by
  have h0 : signOf (b : Int) = ((Fl.wd (Fl.sg b) 0 : Nat) : Int) := by
    unfold signOf Fl.wd Fl.sg
    by_cases h1 : b / 9223372036854775808 % 2 = 1
    · simp [h1]; omega
    · simp [h1]; omega
  have hz : Fl.wd (Fl.sg b) 0 = 0 ∨ Fl.wd (Fl.sg b) 0 = 9223372036854775808 := by unfold Fl.wd; cases Fl.sg b <;> simp
  rw [h0, orU_nat 63 (by omega) (by omega) hr (by omega)]
  unfold Fl.wd; cases Fl.sg b <;> simp

/-- The power of 2 within the bounds beyond which nothing changes. -/
def clamp (k : Int) : Int := if k < -2099 then -2099 else if 2099 < k then 2099 else k
theorem clamp_scl {b : Nat} (h0 : Fl.rung b ≠ 0) (hf : Fl.rung b < Fl.INF) (k : Int) : Fl.scl (Fl.dm b) (Fl.de b + clamp k + 1074) = Fl.scl (Fl.mag (Fl.rung b)) k := by
  have hd := Fl.dm_bounds h0
  have he := Fl.de_bounds hf
  rw [Fl.scl_digits]
  unfold clamp
  have low : ∀ j : Int, j ≤ -54 → Fl.scl (Fl.dm b) j = 0 := by
    intro j hj
    refine Fl.scl_low _ _ ?_ (by omega)
    have : 2 ^ 54 ≤ 2 ^ (-j).toNat := Nat.pow_le_pow_right (by omega) (by omega)
    omega
  have high : ∀ j : Int, 2046 ≤ j → Fl.scl (Fl.dm b) j = Fl.INF := by
    intro j hj
    have := Fl.scl_exact (Fl.dm b) j.toNat hd.2 (.inl hd.1)
    rw [Int.toNat_of_nonneg (by omega)] at this
    have hI := Fl.INF_val
    rw [this]; unfold Fl.cap; omega
  split
  · rw [low _ (by omega), low _ (by omega)]
  · split
    · rw [high _ (by omega), high _ (by omega)]
    · congr 1; omega
theorem scale_any (b : Nat) (k : Int) (w : World) (hb : b < 18446744073709551616) :
    Calls Try.prog 40 #[.float .f64 b, .int .i64 k] w fun e w' => e = .returned (.float .f64 (Fl.scale b k)) ∧ Below w.heap.size w w' := by
  have ht := eql_zero b
  by_cases h0 : Fl.rung b = 0
  · rw [decide_eq_true h0] at ht
    have he : Fl.scale b k = b := by unfold Fl.scale; rw [if_pos (.inl h0)]
    rw [he]
    clear he h0
    go_enter Try.func40, Try.ntmps40
    go_wp2_with fail
    go_ret
    exact ⟨rfl, Below.refl _ _⟩
  · rw [decide_eq_false h0] at ht
    by_cases hf : Fl.rung b < Fl.INF
    · have hfin : Fl.fin b = true := decide_eq_true hf
      have hx := clamp_scl h0 hf k
      have he : Fl.scale b k = Fl.wd (Fl.sg b) (Fl.scl (Fl.dm b) (Fl.de b + clamp k + 1074)) := by rw [hx]; unfold Fl.scale; rw [if_neg (by omega)]
      have hd := Fl.de_bounds hf
      obtain ⟨d1, d2⟩ := hd
      have hm := Fl.dm_bounds h0
      rw [he]
      have H0 := Lib.hid h0
      have HF := Lib.hid hf
      have HI := Lib.hid hfin
      have HM := Lib.hid hm
      clear he hx h0 hf hfin hm
      have hk : (k < -2099 ∧ clamp k = -2099) ∨ (2099 < k ∧ clamp k = 2099) ∨ ((-2099 ≤ k ∧ k ≤ 2099) ∧ clamp k = k) := by
        unfold clamp; split
        · exact .inl ⟨by omega, rfl⟩
        · split
          · exact .inr (.inl ⟨by omega, rfl⟩)
          · exact .inr (.inr ⟨by omega, rfl⟩)
      rcases hk with ⟨k1, k2⟩ | ⟨k1, k2⟩ | ⟨k1, k2⟩
      all_goals
        rw [k2]
        clear k2
        go_enter Try.func40, Try.ntmps40
        go_wp2_with fail
        refine (finite_one _ _ b _ hb (by simp)).mono ?_
        rintro e w' ⟨rfl, rfl⟩
        rw [HI.out]
        go_wp2_with fail
        refine (digits_any b _ hb H0.out HF.out).mono ?_
        rintro e w' ⟨rfl, rfl⟩
        go_wp2_with fail
        refine (join_any (Fl.dm b) _ _ HM.out.1 HM.out.2 (by omega) (by omega)).mono ?_
        rintro e w' ⟨rfl, hbl⟩
        go_wp2_with fail
        go_ret
        refine ⟨ret_float ?_, ((Below.refl _ _).alloc (Nat.le_refl _) _).trans (hbl.mono (by simp))⟩
        rw [orU_sign (Nat.lt_of_le_of_lt (Fl.scl_le _ _) (by decide)), Int.toNat_natCast]
    · have hfin : Fl.fin b = false := decide_eq_false hf
      have he : Fl.scale b k = b := by unfold Fl.scale; rw [if_pos (.inr (by omega))]
      rw [he]
      have HI := Lib.hid hfin
      clear he h0 hf hfin
      go_enter Try.func40, Try.ntmps40
      go_wp2_with fail
      refine (finite_one _ _ b _ hb (by simp)).mono ?_
      rintro e w' ⟨rfl, rfl⟩
      rw [HI.out]
      go_wp2_with fail
      go_ret
      exact ⟨rfl, (Below.refl _ _).alloc (Nat.le_refl _) _⟩
end Go.Proofs.Ytelpdbkkefpjhaa
/-
Make, the document's rounding by steps, comes to the nearest number. Conditions: the digits are below 2^62.
-/
set_option linter.unusedVariables false
namespace Go.Proofs.Ytelpdbkkefpjhaa
open Go.RowKit
attribute [local go_sem ↓] ib_andNot_sign ib_and_frac ib_and_15 ib_and_1 ib_and_sign ib_and_inf ib_or

/-- After some doublings of m, each of which took one from e. -/
def Up1 (m : Nat) (e : Int) (M : Nat) (E : Int) : Prop := ∃ j : Nat, M = m * 2 ^ j ∧ E = e - j ∧ (j = 0 ∨ (M < 9007199254740992 ∧ -1074 ≤ E))
theorem Up1.start (m : Nat) (e : Int) : Up1 m e m e := ⟨0, by simp, by omega, .inl rfl⟩
theorem Up1.step {m : Nat} {e : Int} {M : Nat} {E : Int} (h : Up1 m e M E) (h1 : M < 4503599627370496) (h2 : -1074 < E) : Up1 m e (M * 2) (E - 1) := by
  obtain ⟨j, rfl, rfl, _⟩ := h
  exact ⟨j + 1, by rw [Nat.pow_succ, Nat.mul_assoc], by omega, .inr ⟨by omega, by omega⟩⟩
theorem Up1.scl {m : Nat} {e : Int} {M : Nat} {E : Int} (h : Up1 m e M E) : Fl.scl m (e + 1074) = Fl.scl M (E + 1074) := by
  obtain ⟨j, rfl, rfl, _⟩ := h
  rw [Fl.scl_shift]; congr 1; omega

/-- The last digit that was cut off, and whether one behind it was 1. -/
def lostB (m i : Nat) : Bool := if i = 0 then false else decide (m % 2 ^ (i - 1) ≠ 0)
def halfB (m i : Nat) : Bool := if i = 0 then false else decide (m / 2 ^ (i - 1) % 2 = 1)
def Down2 (m : Nat) (e : Int) (M : Nat) (E : Int) (lost half : Bool) : Prop :=
  ∃ i : Nat, M = m / 2 ^ i ∧ E = e + i ∧ lost = lostB m i ∧ half = halfB m i ∧ (i = 0 ∨ 4503599627370496 ≤ M ∨ E ≤ -1074)
theorem Down2.start (m : Nat) (e : Int) : Down2 m e m e false false := ⟨0, by simp, by omega, rfl, rfl, .inl rfl⟩
theorem Down2.step {m : Nat} {e : Int} {M : Nat} {E : Int} {lost half : Bool} (h : Down2 m e M E lost half) (hc : 9007199254740992 ≤ M ∨ E < -1074) :
    Down2 m e (M / 2) (E + 1) (lost || half) (decide (M % 2 = 1)) := by
  obtain ⟨i, rfl, rfl, rfl, rfl, _⟩ := h
  refine ⟨i + 1, by rw [Nat.pow_succ, Nat.div_div_eq_div_mul], by omega, ?_, ?_, ?_⟩
  · unfold lostB halfB
    rw [if_neg (show ¬ i + 1 = 0 by omega), show i + 1 - 1 = i by omega]
    by_cases h0 : i = 0
    · subst h0; simp [Nat.mod_one]
    · rw [if_neg h0, if_neg h0]
      obtain ⟨k, rfl⟩ : ∃ k, i = k + 1 := ⟨i - 1, by omega⟩
      rw [show k + 1 - 1 = k by omega, Nat.mod_pow_succ]
      have hp : 0 < 2 ^ k := Nat.two_pow_pos k
      rw [Bool.eq_iff_iff]
      simp only [Bool.or_eq_true, decide_eq_true_eq]
      have hb : m / 2 ^ k % 2 = 0 ∨ m / 2 ^ k % 2 = 1 := by omega
      rcases hb with hb | hb
      · rw [hb]; simp
      · rw [hb]; simp
  · unfold halfB
    rw [if_neg (show ¬ i + 1 = 0 by omega), show i + 1 - 1 = i by omega]
  · rcases hc with hc | hc
    · exact .inr (.inl (by omega))
    · exact .inr (.inr (by omega))
/-- Rounded: one more if the last digit that was cut off was 1, and one behind it, or the last that is kept. -/
theorem rne_lost (m i : Nat) : Fl.rne m i = m / 2 ^ i + if halfB m i = true ∧ (lostB m i = true ∨ m / 2 ^ i % 2 = 1) then 1 else 0 := by
  by_cases h0 : i = 0
  · subst h0; rw [Fl.rne_d0]; simp [halfB]
  · rw [rne_half m i (by omega)]
    congr 1
    unfold halfB lostB
    rw [if_neg h0, if_neg h0]
    obtain ⟨k, rfl⟩ : ∃ k, i = k + 1 := ⟨i - 1, by omega⟩
    rw [show k + 1 - 1 = k by omega, Nat.mod_pow_succ]
    have hp : 0 < 2 ^ k := Nat.two_pow_pos k
    have hm := Nat.mod_lt m hp
    simp only [decide_eq_true_eq]
    have hb : m / 2 ^ k % 2 = 0 ∨ m / 2 ^ k % 2 = 1 := by omega
    generalize m / 2 ^ (k + 1) % 2 = z
    rcases hb with hb | hb
    · rw [hb, if_neg (by simp; omega), if_neg (by omega)]
    · rw [hb]
      by_cases h1 : m % 2 ^ k = 0
      · by_cases h2 : z = 1
        · rw [if_pos (by simp; omega), if_pos ⟨rfl, .inr h2⟩]
        · rw [if_neg (by simp; omega), if_neg (by omega)]
      · rw [if_pos (by simp; omega), if_pos ⟨rfl, .inl h1⟩]

/-- The rung that Make comes to, out of what its loops leave. -/
theorem Down2.scl {m : Nat} {e : Int} {M : Nat} {E : Int} {lost half : Bool} (h : Down2 m e M E lost half) (h1 : M < 9007199254740992) (h2 : -1074 ≤ E) (h3 : 4503599627370496 ≤ m ∨ e ≤ -1074) :
    Fl.scl m (e + 1074) = Fl.cap ((E + 1074).toNat * 4503599627370496 + (M + if half = true ∧ (lost = true ∨ M % 2 = 1) then 1 else 0)) ∧ (4503599627370496 ≤ M ∨ E = -1074) := by
  obtain ⟨i, rfl, rfl, rfl, rfl, hl⟩ := h
  have hq : 4503599627370496 ≤ m / 2 ^ i ∨ (e + i + 1074).toNat = 0 := by
    rcases hl with rfl | hl | hl
    · rcases h3 with h3 | h3
      · left; simpa using h3
      · right; omega
    · exact .inl hl
    · right; omega
  have := Fl.scl_place m i (e + i + 1074).toNat h1 hq
  rw [Int.toNat_of_nonneg (by omega), show e + (i : Int) + 1074 - (i : Int) = e + 1074 by omega, rne_lost] at this
  exact ⟨this, by omega⟩

theorem Down2.bound {m : Nat} {e : Int} {M : Nat} {E : Int} {lost half : Bool} (h : Down2 m e M E lost half) (h1 : m < 4611686018427387904) (h2 : e ≤ 2000) (hc : 9007199254740992 ≤ M ∨ E < -1074) : E < 5000 := by
  obtain ⟨i, rfl, rfl, _⟩ := h
  rcases hc with hc | hc
  · have : i < 62 := by
      refine Nat.lt_of_not_le fun hi => ?_
      have : 2 ^ 62 ≤ 2 ^ i := Nat.pow_le_pow_right (by omega) hi
      rw [Nat.div_eq_of_lt (by omega)] at hc
      omega
    omega
  · omega

/-- What the document's Make answers. -/
def mk (neg : Bool) (m : Nat) (e : Int) : Nat := Fl.wd neg (Fl.scl m (e + 1074))

theorem mk_false {m : Nat} {e : Int} {R : Nat} (h : Fl.scl m (e + 1074) = Fl.cap R) : mk false m e = min R 9218868437227405312 := by
  unfold mk Fl.wd Fl.cap at *
  rw [Fl.INF_val] at h
  rw [h]; simp
theorem mk_true {m : Nat} {e : Int} {R : Nat} (h : Fl.scl m (e + 1074) = Fl.cap R) : mk true m e = 9223372036854775808 + min R 9218868437227405312 := by
  unfold mk Fl.wd Fl.cap at *
  rw [Fl.INF_val] at h
  rw [h]; simp

end Go.Proofs.Ytelpdbkkefpjhaa
/-
Make, the document's rounding by steps, comes to the nearest number: of numbers with no sign. Conditions: the digits are below 2^62 and not 0, the place within -1200 and 2000.
-/
set_option linter.unusedVariables false
namespace Go.Proofs.Ytelpdbkkefpjhaa
open Go.RowKit
attribute [local go_sem ↓] ib_andNot_sign ib_and_frac ib_and_15 ib_and_1 ib_and_sign ib_and_inf ib_or

set_option maxHeartbeats 1000000 in
theorem make_false (m : Nat) (e : Int) (w : World) (hm0 : m ≠ 0) (hm : m < 4611686018427387904) (he1 : -1200 ≤ e) (he2 : e ≤ 2000) :
    Calls Try.prog 64 #[.bool false, .int .u64 m, .int .i64 e] w fun z w' => z = .returned (.float .f64 (mk false m e)) ∧ w = w' := by
  have t0 : ((m : Int) == 0) = false := by simp; omega
  have t1 : decide (e < -1200) = false := by simp; omega
  have t2 : decide (2000 < e) = false := by simp; omega
  have H0 := Lib.hid hm0
  clear hm0
  go_enter Try.func64, Try.ntmps64
  go_wp2
  go_loop [1, 2] (fun a b => ∃ (M : Nat) (E : Int), a = .int .u64 M ∧ b = .int .i64 E ∧ M < 4611686018427387904 ∧ -1200 ≤ E ∧ E ≤ 2000 ∧ Up1 m e M E) (fun _ b => (intOf b + 1200).toNat)
  case atStart => exact ⟨m, e, rfl, rfl, hm, he1, he2, Up1.start m e⟩
  case round =>
    obtain ⟨M, E, rfl, rfl, hM, hE1, hE2, hP⟩ := hrel
    by_cases c : M < 4503599627370496 ∧ -1074 < E
    · have HP := Lib.hid (hP.step c.1 c.2)
      have b1 : decide ((M : Int) < 4503599627370496) = true := by simp; omega
      have b2 : decide (-1074 < E) = true := by simp; omega
      clear hP
      obtain ⟨c1, c2⟩ := c
      go_wp2
      go_round
      case rel => exact ⟨M * 2, E - 1, by go_num, by go_num, by omega, by omega, by omega, HP.out⟩
      case measure => simp [intOf]; omega
    · have hs := hP.scl
      have h3 : 4503599627370496 ≤ M ∨ E ≤ -1074 := by omega
      have HS := Lib.hid hs
      have H3 := Lib.hid h3
      clear hs h3 hP
      have hb : (decide ((M : Int) < 4503599627370496) = true ∧ decide (-1074 < E) = false) ∨ decide ((M : Int) < 4503599627370496) = false := by simp; omega
      clear c
      rcases hb with ⟨b1, b2⟩ | b1
      all_goals
        go_wp2
        clear b1
        try clear b2
        go_loop [1, 2, 8, 9] (fun a b c d => ∃ (N : Nat) (F : Int) (lost half : Bool), a = .int .u64 N ∧ b = .int .i64 F ∧ c = .bool lost ∧ d = .bool half ∧ N < 4611686018427387904 ∧ -1200 ≤ F ∧ F ≤ 5000 ∧ Down2 M E N F lost half) (fun a b _ _ => (intOf a).toNat + (-1074 - intOf b).toNat)
        case atStart => exact ⟨M, E, false, false, rfl, rfl, rfl, rfl, hM, hE1, by omega, Down2.start M E⟩
        case round =>
          obtain ⟨N, F, lost, half, rfl, rfl, rfl, rfl, hN, hF1, hF2, hD⟩ := hrel
          by_cases c : 9007199254740992 ≤ N ∨ F < -1074
          · have HD := Lib.hid (hD.step c)
            have hF3 : F < 5000 := hD.bound hM hE2 c
            have hp : ((N : Int) % 2 == 1) = decide (N % 2 = 1) := by rw [Bool.eq_iff_iff]; simp; omega
            have hb : decide (9007199254740992 ≤ (N : Int)) = true ∨ (decide (9007199254740992 ≤ (N : Int)) = false ∧ decide (F < -1074) = true) := by simp; omega
            have hms : N / 2 + (-1074 - (F + 1)).toNat < N + (-1074 - F).toNat := by omega
            have HMS := Lib.hid hms
            clear hD c hms
            cases lost
            all_goals
              rcases hb with d1 | ⟨d1, d2⟩
              all_goals
                go_wp2
                go_round
                case rel => exact ⟨N / 2, F + 1, _, _, by go_num, rfl, rfl, rfl, by omega, by omega, by omega, HD.out⟩
                case measure => have := HMS.out; simp [intOf]; omega
          · have hk := hD.scl (by omega) (by omega) H3.out
            rw [← HS.out] at hk
            have hI := Fl.INF_val
            have hbits := mk_false hk.1
            have hN2 : N < 9007199254740992 := by omega
            have hF3 : -1074 ≤ F := by omega
            have hor := hk.2
            have b1 : decide (9007199254740992 ≤ (N : Int)) = false := by simp; omega
            have b2 : decide (F < -1074) = false := by simp; omega
            have hc : (half = false ∧ mk false m e = min ((F + 1074).toNat * 4503599627370496 + N) 9218868437227405312) ∨
                (half = true ∧ lost = true ∧ mk false m e = min ((F + 1074).toNat * 4503599627370496 + (N + 1)) 9218868437227405312) ∨
                (half = true ∧ lost = false ∧ ((N : Int) % 2 == 1) = true ∧ mk false m e = min ((F + 1074).toNat * 4503599627370496 + (N + 1)) 9218868437227405312) ∨
                (half = true ∧ lost = false ∧ ((N : Int) % 2 == 1) = false ∧ mk false m e = min ((F + 1074).toNat * 4503599627370496 + N) 9218868437227405312) := by
              cases half
              · left; simpa using hbits
              · right
                cases lost
                · right
                  by_cases hp : N % 2 = 1
                  · left; rw [if_pos (by simp [hp])] at hbits; exact ⟨rfl, rfl, by simp; omega, hbits⟩
                  · right; rw [if_neg (by simp [hp])] at hbits; exact ⟨rfl, rfl, by simp; omega, hbits⟩
                · left; rw [if_pos (by simp)] at hbits; exact ⟨rfl, rfl, hbits⟩
            have H0R := Lib.hid hor
            clear hbits hk hD c hor hI
            have hA : ((N : Int) == 9007199254740992) = false := by simp; omega
            have hA2 : decide (2047 ≤ F + 1075) = true ∨ (decide (2047 ≤ F + 1075) = false ∧ (decide ((N : Int) < 4503599627370496) = true ∨ decide ((N : Int) < 4503599627370496) = false)) := by simp; omega
            have hB : (((N : Int) + 1 == 9007199254740992) = true ∧ (decide (2047 ≤ F + 1 + 1075) = true ∨ (decide (2047 ≤ F + 1 + 1075) = false ∧ decide (((N : Int) + 1) / 2 < 4503599627370496) = false))) ∨
                (((N : Int) + 1 == 9007199254740992) = false ∧ (decide (2047 ≤ F + 1075) = true ∨ (decide (2047 ≤ F + 1075) = false ∧ (decide ((N : Int) + 1 < 4503599627370496) = true ∨ decide ((N : Int) + 1 < 4503599627370496) = false)))) := by simp; omega
            rcases hc with ⟨rfl, hb⟩ | ⟨rfl, rfl, hb⟩ | ⟨rfl, rfl, p1, hb⟩ | ⟨rfl, rfl, p1, hb⟩
            · have HB := Lib.hid hb
              clear hb hB
              rcases hA2 with q | ⟨q, q2 | q2⟩
              all_goals
                go_wp2
                go_ret
                refine ⟨ret_float ?_, rfl⟩
                have h1 := HB.out
                have h2 := H0R.out
                rw [h1]
                simp only [decide_eq_true_eq, decide_eq_false_iff_not, beq_eq_false_iff_ne, ne_eq] at *
                try simp only [IntKind.wrap_u64]
                omega
            · have HB := Lib.hid hb
              clear hb hA2 hA
              rcases hB with ⟨q0, q | ⟨q, q2⟩⟩ | ⟨q0, q | ⟨q, q2 | q2⟩⟩
              all_goals
                go_wp2
                go_ret
                refine ⟨ret_float ?_, rfl⟩
                have h1 := HB.out
                have h2 := H0R.out
                rw [h1]
                simp only [decide_eq_true_eq, decide_eq_false_iff_not, beq_iff_eq, beq_eq_false_iff_ne, ne_eq] at *
                try simp only [IntKind.wrap_u64]
                omega
            · have HB := Lib.hid hb
              clear hb hA2 hA
              rcases hB with ⟨q0, q | ⟨q, q2⟩⟩ | ⟨q0, q | ⟨q, q2 | q2⟩⟩
              all_goals
                go_wp2
                go_ret
                refine ⟨ret_float ?_, rfl⟩
                have h1 := HB.out
                have h2 := H0R.out
                rw [h1]
                simp only [decide_eq_true_eq, decide_eq_false_iff_not, beq_iff_eq, beq_eq_false_iff_ne, ne_eq] at *
                try simp only [IntKind.wrap_u64]
                omega
            · have HB := Lib.hid hb
              clear hb hB
              rcases hA2 with q | ⟨q, q2 | q2⟩
              all_goals
                go_wp2
                go_ret
                refine ⟨ret_float ?_, rfl⟩
                have h1 := HB.out
                have h2 := H0R.out
                rw [h1]
                simp only [decide_eq_true_eq, decide_eq_false_iff_not, beq_eq_false_iff_ne, ne_eq] at *
                try simp only [IntKind.wrap_u64]
                omega
end Go.Proofs.Ytelpdbkkefpjhaa
