/-
Rounding keeps the order; scaling up and back; the word above. Conditions: none beyond what each says.
-/
import Derived.Test.YtbeefnekblepfaaUaab
import Ieee.Arith
namespace Go.Proofs.Ytbeefnekblepfaa.Fl

theorem rne_le (n d : Nat) : n / 2 ^ d ≤ rne n d ∧ rne n d ≤ n / 2 ^ d + 1 := by unfold rne; split <;> omega
theorem rne_mono {n1 n2 : Nat} (d : Nat) (h : n1 ≤ n2) : rne n1 d ≤ rne n2 d := by
  have hq : n1 / 2 ^ d ≤ n2 / 2 ^ d := Nat.div_le_div_right h
  by_cases he : n1 / 2 ^ d = n2 / 2 ^ d
  · have e1 := Nat.div_add_mod n1 (2 ^ d)
    have e2 := Nat.div_add_mod n2 (2 ^ d)
    unfold rne
    rw [he] at e1 ⊢
    generalize n1 % 2 ^ d = r1 at *
    generalize n2 % 2 ^ d = r2 at *
    generalize n2 / 2 ^ d = q at *
    have : r1 ≤ r2 := by omega
    by_cases c : 2 ^ d < 2 * r1 ∨ (2 ^ d = 2 * r1 ∧ q % 2 = 1)
    · rw [if_pos c, if_pos (by omega)]; omega
    · rw [if_neg c]; split <;> omega
  · have := (rne_le n1 d).2; have := (rne_le n2 d).1; omega
theorem log2_mono {a b : Nat} (h0 : a ≠ 0) (h : a ≤ b) : a.log2 ≤ b.log2 :=
  (Nat.le_log2 (by omega)).2 (Nat.le_trans (Nat.log2_self_le h0) h)
theorem rnd_mono {n1 n2 : Nat} (d : Nat) (h : n1 ≤ n2) : rnd n1 d ≤ rnd n2 d := by
  by_cases h0 : n1 = 0
  · subst h0; rw [rnd_zero]; omega
  have hl := log2_mono h0 h
  unfold rnd
  by_cases he : n1.log2 - (d + 52) = n2.log2 - (d + 52)
  · rw [he]; have := rne_mono (d + (n2.log2 - (d + 52))) h; omega
  · have a : n1 / 2 ^ (d + (n1.log2 - (d + 52))) < 2 ^ 53 := by
      have hp : 0 < 2 ^ (d + (n1.log2 - (d + 52))) := Nat.two_pow_pos _
      rw [Nat.div_lt_iff_lt_mul hp, ← Nat.pow_add]
      exact Nat.lt_of_lt_of_le Nat.lt_log2_self (Nat.pow_le_pow_right (by omega) (by omega))
    have b : 2 ^ 52 ≤ n2 / 2 ^ (d + (n2.log2 - (d + 52))) := by
      have hp : 0 < 2 ^ (d + (n2.log2 - (d + 52))) := Nat.two_pow_pos _
      rw [Nat.le_div_iff_mul_le hp, ← Nat.pow_add]
      exact Nat.le_trans (Nat.pow_le_pow_right (by omega) (by omega)) (Nat.log2_self_le (by omega))
    have := (rne_le n1 (d + (n1.log2 - (d + 52)))).2
    have := (rne_le n2 (d + (n2.log2 - (d + 52)))).1
    have ht : n1.log2 - (d + 52) < n2.log2 - (d + 52) := by omega
    generalize n1.log2 - (d + 52) = t1 at *
    generalize n2.log2 - (d + 52) = t2 at *
    generalize n1 / 2 ^ (d + t1) = q1 at *
    generalize n2 / 2 ^ (d + t2) = q2 at *
    omega
theorem cap_mono {a b : Nat} (h : a ≤ b) : cap a ≤ cap b := by unfold cap; omega
theorem scl_mono {m1 m2 : Nat} (k : Int) (h : m1 ≤ m2) : scl m1 k ≤ scl m2 k := by
  unfold scl
  split
  · exact cap_mono (rnd_mono _ (Nat.mul_le_mul_right _ h))
  · exact cap_mono (rnd_mono _ h)

theorem mag_small {x : Nat} (h : x < 9007199254740992) : mag x = x := by
  unfold mag
  by_cases h1 : x < 4503599627370496
  · rw [if_pos h1]
  · rw [if_neg h1, show x / 4503599627370496 - 1 = 0 by omega]; simp; omega
theorem mag_place {m q : Nat} (h1 : 4503599627370496 ≤ m) (h2 : m < 9007199254740992) : mag (q * 4503599627370496 + m) = m * 2 ^ q := by
  unfold mag
  rw [if_neg (by omega), show (q * 4503599627370496 + m) / 4503599627370496 - 1 = q by omega, show 4503599627370496 + (q * 4503599627370496 + m) % 4503599627370496 = m by omega]
/-- What isn't too great is scaled up without rounding. -/
theorem scl_mag {m q : Nat} (hm : m < 9007199254740992) (h : scl m q < INF) : mag (scl m q) = m * 2 ^ q := by
  by_cases h0 : m = 0
  · subst h0; rw [scl_zero]; simp [mag]
  have hI := INF_val
  have hl : m.log2 < 53 := (Nat.log2_lt h0).2 hm
  by_cases hc : m.log2 + q ≤ 52
  · have hx : m * 2 ^ q < 9007199254740992 := by
      have h1 : m < 2 ^ (m.log2 + 1) := Nat.lt_log2_self
      have h2 : m * 2 ^ q < 2 ^ (m.log2 + 1) * 2 ^ q := Nat.mul_lt_mul_of_pos_right h1 (Nat.two_pow_pos q)
      rw [← Nat.pow_add] at h2
      have h3 : 2 ^ (m.log2 + 1 + q) ≤ 2 ^ 53 := Nat.pow_le_pow_right (by omega) (by omega)
      omega
    have e := scl_shift m q 0
    rw [Int.add_zero] at e
    have e2 := scl_exact (m * 2 ^ q) 0 hx (.inr rfl)
    rw [show ((0 : Nat) : Int) = 0 from rfl] at e2
    rw [← e, e2]
    have : cap (0 * 4503599627370496 + m * 2 ^ q) = m * 2 ^ q := by unfold cap; omega
    rw [this, mag_small hx]
  · have hj : 52 - m.log2 ≤ q := by omega
    have hlo : 4503599627370496 ≤ m * 2 ^ (52 - m.log2) := by
      have := Nat.mul_le_mul_right (2 ^ (52 - m.log2)) (Nat.log2_self_le h0)
      rw [← Nat.pow_add, show m.log2 + (52 - m.log2) = 52 by omega] at this
      exact this
    have hhi : m * 2 ^ (52 - m.log2) < 9007199254740992 := by
      have h1 : m < 2 ^ (m.log2 + 1) := Nat.lt_log2_self
      have h2 := Nat.mul_lt_mul_of_pos_right h1 (Nat.two_pow_pos (52 - m.log2))
      rw [← Nat.pow_add, show m.log2 + 1 + (52 - m.log2) = 53 by omega] at h2
      exact h2
    have e := scl_shift m (52 - m.log2) ((q - (52 - m.log2) : Nat) : Int)
    rw [show ((52 - m.log2 : Nat) : Int) + ((q - (52 - m.log2) : Nat) : Int) = q by omega] at e
    have e2 := scl_exact (m * 2 ^ (52 - m.log2)) (q - (52 - m.log2)) hhi (.inl hlo)
    rw [← e, e2] at h ⊢
    have hcap : cap ((q - (52 - m.log2)) * 4503599627370496 + m * 2 ^ (52 - m.log2)) = (q - (52 - m.log2)) * 4503599627370496 + m * 2 ^ (52 - m.log2) := by
      unfold cap at h ⊢; omega
    rw [hcap, mag_place hlo hhi, Nat.mul_assoc, ← Nat.pow_add]
    congr 2; omega
theorem scl_self {b : Nat} (h : rung b < INF) : scl (mag (rung b)) 0 = rung b := by
  have := scl_exact (pm b) (pe b) (pm_lt b) (pm_pe b)
  rw [← rung_parts] at this
  rw [scale_parts, Int.add_zero, this]
  unfold cap; omega

theorem scale_back {b : Nat} (hb : b < 18446744073709551616) (n : Nat) (h1 : rung b < INF) (h2 : rung (scale b n) < INF) : scale (scale b n) (-(n : Int)) = b := by
  have hI := INF_val
  by_cases h0 : rung b = 0
  · have e : scale b n = b := by unfold scale; rw [if_pos (.inl h0)]
    rw [e]; unfold scale; rw [if_pos (.inl h0)]
  · have e : scale b n = wd (sg b) (scl (mag (rung b)) n) := by unfold scale; rw [if_neg (by omega)]
    have hlt : scl (mag (rung b)) n < 9223372036854775808 := Nat.lt_of_le_of_lt (scl_le _ _) (by omega)
    rw [e, rung_wd _ hlt] at h2
    have hm : mag (scl (mag (rung b)) n) = mag (rung b) * 2 ^ n := by
      rw [scale_parts, show (pe b : Int) + (n : Int) = ((pe b + n : Nat) : Int) by omega] at h2 ⊢
      rw [scl_mag (pm_lt b) h2, mag_parts, Nat.mul_assoc, ← Nat.pow_add]
    have hpos : 0 < mag (rung b) := by have := mag_lt (r := 0) (s := rung b) (by omega); omega
    have hr : scl (mag (rung b)) n ≠ 0 := by
      intro h
      rw [h, mag_zero] at hm
      have : 0 < mag (rung b) * 2 ^ n := Nat.mul_pos hpos (Nat.two_pow_pos n)
      omega
    rw [e]
    unfold scale
    rw [rung_wd _ hlt, sg_wd _ hlt, if_neg (by omega), hm, scl_shift, show (n : Int) + -(n : Int) = 0 by omega, scl_self h1, wd_parts hb]

theorem key_wd (s : Bool) {r : Nat} (h : r < 9223372036854775808) : key (wd s r) = if s then -(r : Int) else (r : Int) := by
  unfold key; rw [sg_wd s h, rung_wd s h]
theorem rung_scale (b : Nat) (k : Int) (h : rung b ≤ INF) : rung (scale b k) ≤ INF := by
  have hI := INF_val
  unfold scale; split
  · exact h
  · rw [rung_wd _ (Nat.lt_of_le_of_lt (scl_le _ _) (by omega))]; exact scl_le _ _
theorem key_scale (b : Nat) (k : Int) (h : rung b < INF) : key (scale b k) = if sg b then -(scl (mag (rung b)) k : Int) else (scl (mag (rung b)) k : Int) := by
  have hI := INF_val
  unfold scale
  by_cases h0 : rung b = 0
  · rw [if_pos (.inl h0), h0, mag_zero, scl_zero]
    unfold key; rw [h0]
  · rw [if_neg (by omega), key_wd _ (Nat.lt_of_le_of_lt (scl_le _ _) (by omega))]
theorem key_scale_inf (b : Nat) (k : Int) (h : rung b = INF) : key (scale b k) = if sg b then -(INF : Int) else (INF : Int) := by
  unfold scale
  rw [if_pos (.inr (by omega))]; unfold key; rw [h]
theorem scale_mono {b c : Nat} (k : Int) (hb : rung b ≤ INF) (hc : rung c ≤ INF) (h : key b ≤ key c) : key (scale b k) ≤ key (scale c k) := by
  have mono : ∀ r s : Nat, r ≤ s → scl (mag r) k ≤ scl (mag s) k := fun r s hrs => scl_mono k ((mag_le_iff r s).2 hrs)
  have l1 := scl_le (mag (rung b)) k
  have l2 := scl_le (mag (rung c)) k
  have m1 := mono (rung b) (rung c)
  have m2 := mono (rung c) (rung b)
  have z1 : rung b = 0 → scl (mag (rung b)) k = 0 := by intro h; rw [h, mag_zero, scl_zero]
  have z2 : rung c = 0 → scl (mag (rung c)) k = 0 := by intro h; rw [h, mag_zero, scl_zero]
  unfold key at h
  by_cases hb1 : rung b = INF
  · rw [key_scale_inf b k hb1]
    by_cases hc1 : rung c = INF
    · rw [key_scale_inf c k hc1, ← hb1]; rw [hc1, ← hb1] at h; exact h
    · rw [key_scale c k (by omega)]
      cases hs : sg b <;> cases ht : sg c <;> simp [hs, ht] at h ⊢ <;> omega
  · rw [key_scale b k (by omega)]
    by_cases hc1 : rung c = INF
    · rw [key_scale_inf c k hc1]
      cases hs : sg b <;> cases ht : sg c <;> simp [hs, ht] at h ⊢ <;> omega
    · rw [key_scale c k (by omega)]
      cases hs : sg b <;> cases ht : sg c <;> simp [hs, ht] at h ⊢ <;> omega
end Go.Proofs.Ytbeefnekblepfaa.Fl
/-
What Ieee's rounding comes to, and how far it is off. Conditions: none.
-/
set_option linter.unusedVariables false
namespace Go.Proofs.Ytbeefnekblepfaa.Fl
open Ieee

theorem cut_rne (neg : Bool) (n drop : Nat) : Toward.even.cut neg n drop = rne n drop := by
  unfold Toward.cut
  simp only [Nat.shiftLeft_eq, Nat.one_mul]
  by_cases h : drop ≤ n.log2 + 2
  · rw [Nat.min_eq_left h]
    unfold rne
    by_cases h1 : 2 ^ drop < 2 * (n % 2 ^ drop)
    · simp [h1]
    · by_cases h2 : 2 ^ drop = 2 * (n % 2 ^ drop)
      · by_cases h3 : n / 2 ^ drop % 2 = 1
        · simp [← h2, h3]
        · simp [← h2, h3]
      · simp [h1, h2]
  · have hm : min drop (n.log2 + 2) = n.log2 + 2 := by omega
    rw [hm]
    have hlt : n < 2 ^ (n.log2 + 1) := by
      by_cases h0 : n = 0
      · subst h0; exact Nat.two_pow_pos _
      · exact Nat.lt_log2_self
    have h4 : 2 ^ (n.log2 + 2) = 2 * 2 ^ (n.log2 + 1) := by rw [Nat.pow_succ 2 (n.log2 + 1)]; omega
    have h5 : 2 ^ (n.log2 + 2) ≤ 2 ^ drop := Nat.pow_le_pow_right (by omega) (by omega)
    rw [rne_small n drop (by omega)]
    have h6 : n < 2 ^ (n.log2 + 2) := by omega
    rw [Nat.div_eq_of_lt h6, Nat.mod_eq_of_lt h6]
    have h7 : ¬ 2 ^ (n.log2 + 2) < 2 * n := by omega

    simp [h7]
theorem dbl_sign : double.signWeight = 9223372036854775808 := by decide
theorem dbl_binade : double.binade = 4503599627370496 := by decide
theorem dbl_inf : double.infRung = INF := by decide
theorem dbl_word (neg : Bool) (r : Nat) : double.word neg r = wd neg r := by
  unfold Format.word wd
  rw [dbl_sign]
/-- The rung that a number is rounded to, below the lowest place. -/
theorem nearest_low (neg : Bool) (m d : Nat) : double.nearest neg m (-1074 - (d : Int)) = wd neg (cap (rnd m d)) := by
  unfold Format.nearest
  by_cases h0 : m = 0
  · subst h0; rw [rnd_zero, if_pos rfl, dbl_word]; rfl
  rw [if_neg h0]
  have hl : double.leastPlace = -1074 := by decide
  have hf : (double.fractionBits : Int) = 52 := by decide
  simp only [hl, hf]
  have h1 : max (-1074 - (d : Int) + (m.log2 : Int) - 52) (-1074) = -1074 + ((m.log2 - (d + 52) : Nat) : Int) := by omega
  rw [h1]
  have h2 : (-1074 - (d : Int) - (-1074 + ((m.log2 - (d + 52) : Nat) : Int))).toNat = 0 := by omega
  have h3 : (-1074 + ((m.log2 - (d + 52) : Nat) : Int) - (-1074 - (d : Int))).toNat = d + (m.log2 - (d + 52)) := by omega
  have h4 : (-1074 + ((m.log2 - (d + 52) : Nat) : Int) - -1074).toNat = m.log2 - (d + 52) := by omega
  rw [h2, h3, h4, Nat.shiftLeft_zero, cut_rne, dbl_word, dbl_binade, dbl_inf]
  unfold cap rnd
  exact congrArg _ rfl
theorem nearest_high (neg : Bool) (m k : Nat) : double.nearest neg m (-1074 + (k : Int)) = wd neg (cap (rnd (m * 2 ^ k) 0)) := by
  unfold Format.nearest
  by_cases h0 : m = 0
  · subst h0; rw [Nat.zero_mul, rnd_zero, if_pos rfl, dbl_word]; rfl
  rw [if_neg h0]
  have hl : double.leastPlace = -1074 := by decide
  have hf : (double.fractionBits : Int) = 52 := by decide
  simp only [hl, hf]
  have h1 : max (-1074 + (k : Int) + (m.log2 : Int) - 52) (-1074) = -1074 + ((m.log2 + k - 52 : Nat) : Int) := by omega
  rw [h1]
  have hx : rnd (m * 2 ^ k) 0 = (m.log2 + k - 52) * 4503599627370496 + rne (m * 2 ^ k) (m.log2 + k - 52) := by
    unfold rnd
    rw [log2_mul m k h0, Nat.zero_add, Nat.zero_add]
  have h4 : (-1074 + ((m.log2 + k - 52 : Nat) : Int) - -1074).toNat = m.log2 + k - 52 := by omega
  rw [h4, hx, cut_rne]
  have key : rne (m <<< (-1074 + (k : Int) - (-1074 + ((m.log2 + k - 52 : Nat) : Int))).toNat) (-1074 + ((m.log2 + k - 52 : Nat) : Int) - (-1074 + (k : Int))).toNat = rne (m * 2 ^ k) (m.log2 + k - 52) := by
    generalize m.log2 + k - 52 = t
    rw [Nat.shiftLeft_eq]
    by_cases ht : t ≤ k
    · have e1 : (-1074 + (k : Int) - (-1074 + (t : Int))).toNat = k - t := by omega
      have e2 : (-1074 + (t : Int) - (-1074 + (k : Int))).toNat = 0 := by omega
      rw [e1, e2, rne_d0]
      obtain ⟨j, rfl⟩ : ∃ j, k = j + t := ⟨k - t, by omega⟩
      rw [show j + t - t = j by omega, Nat.pow_add, ← Nat.mul_assoc, rne_mul]
    · have e1 : (-1074 + (k : Int) - (-1074 + (t : Int))).toNat = 0 := by omega
      have e2 : (-1074 + (t : Int) - (-1074 + (k : Int))).toNat = t - k := by omega
      rw [e1, e2, Nat.pow_zero, Nat.mul_one]
      have := rne_shift m (t - k) k
      rw [show t - k + k = t by omega] at this
      exact this.symm
  rw [key, dbl_word, dbl_binade, dbl_inf]
  unfold cap
  exact congrArg _ rfl
theorem nearest_scl (neg : Bool) (m : Nat) (p : Int) : double.nearest neg m p = wd neg (scl m (p + 1074)) := by
  unfold scl
  by_cases h : 0 ≤ p + 1074
  · rw [if_pos h]
    have := nearest_high neg m (p + 1074).toNat
    rw [show (-1074 + ((p + 1074).toNat : Int)) = p by omega] at this
    exact this
  · rw [if_neg h]
    have := nearest_low neg m (-(p + 1074)).toNat
    rw [show (-1074 - ((-(p + 1074)).toNat : Int)) = p by omega] at this
    exact this

/-! ### How far it is off. -/
theorem rne_err (n d : Nat) : 2 * (rne n d * 2 ^ d) ≤ 2 * n + 2 ^ d ∧ 2 * n ≤ 2 * (rne n d * 2 ^ d) + 2 ^ d := by
  have e := Nat.div_add_mod n (2 ^ d)
  have hp : 0 < 2 ^ d := Nat.two_pow_pos d
  have hr : n % 2 ^ d < 2 ^ d := Nat.mod_lt _ hp
  unfold rne
  rw [Nat.mul_comm (2 ^ d) (n / 2 ^ d)] at e
  split
  · rename_i h
    rw [Nat.add_mul, Nat.one_mul]
    generalize n / 2 ^ d * 2 ^ d = q at *
    generalize n % 2 ^ d = r at *
    generalize 2 ^ d = p at *
    omega
  · rename_i h
    rw [Nat.add_zero]
    generalize n / 2 ^ d * 2 ^ d = q at *
    generalize n % 2 ^ d = r at *
    generalize 2 ^ d = p at *
    omega
/-- How great the nearest rung is. -/
theorem mag_rnd (N d : Nat) : mag (rnd N d) = rne N (d + (N.log2 - (d + 52))) * 2 ^ (N.log2 - (d + 52)) := by
  by_cases h0 : N = 0
  · subst h0; rw [rnd_zero, rne_zero, mag_zero]; simp
  unfold rnd
  obtain ⟨t, ht⟩ : ∃ t, N.log2 - (d + 52) = t := ⟨_, rfl⟩
  rw [ht]
  have hp : 0 < 2 ^ (d + t) := Nat.two_pow_pos _
  have hhi : N / 2 ^ (d + t) < 9007199254740992 := by
    rw [Nat.div_lt_iff_lt_mul hp, show (9007199254740992 : Nat) = 2 ^ 53 by rfl, ← Nat.pow_add]
    exact Nat.lt_of_lt_of_le Nat.lt_log2_self (Nat.pow_le_pow_right (by omega) (by omega))
  have hr := rne_le N (d + t)
  by_cases ht0 : t = 0
  · subst ht0
    rw [Nat.zero_mul, Nat.zero_add, Nat.pow_zero, Nat.mul_one]
    by_cases he : rne N (d + 0) = 9007199254740992
    · rw [he]
      have := mag_place (m := 4503599627370496) (q := 1) (by omega) (by omega)
      rw [show 9007199254740992 = 1 * 4503599627370496 + 4503599627370496 by omega, this]
    · exact mag_small (by omega)
  · have hlo : 4503599627370496 ≤ N / 2 ^ (d + t) := by
      rw [Nat.le_div_iff_mul_le hp, show (4503599627370496 : Nat) = 2 ^ 52 by rfl, ← Nat.pow_add]
      exact Nat.le_trans (Nat.pow_le_pow_right (by omega) (by omega)) (Nat.log2_self_le h0)
    by_cases he : rne N (d + t) = 9007199254740992
    · rw [he]
      have := mag_place (m := 4503599627370496) (q := t + 1) (by omega) (by omega)
      rw [show t * 4503599627370496 + 9007199254740992 = (t + 1) * 4503599627370496 + 4503599627370496 by omega, this, Nat.pow_succ]
      omega
    · exact mag_place (by omega) (by omega)
/-- The nearest rung is no farther off than 2^-53 of the number, or half a unit. -/
theorem rnd_err (N d : Nat) : 9007199254740992 * (mag (rnd N d) * 2 ^ d) ≤ 9007199254740992 * N + max N (4503599627370496 * 2 ^ d) ∧ 9007199254740992 * N ≤ 9007199254740992 * (mag (rnd N d) * 2 ^ d) + max N (4503599627370496 * 2 ^ d) := by
  rw [mag_rnd]
  obtain ⟨t, ht⟩ : ∃ t, N.log2 - (d + 52) = t := ⟨_, rfl⟩
  rw [ht]
  have h1 := rne_err N (d + t)
  have e1 : rne N (d + t) * 2 ^ t * 2 ^ d = rne N (d + t) * 2 ^ (d + t) := by rw [Nat.mul_assoc, ← Nat.pow_add, Nat.add_comm t d]
  rw [e1]
  have h2 : 4503599627370496 * 2 ^ (d + t) ≤ max N (4503599627370496 * 2 ^ d) := by
    by_cases ht0 : t = 0
    · subst ht0; exact Nat.le_max_right _ _
    · have h0 : N ≠ 0 := by
        rintro rfl
        simp at ht; omega
      refine Nat.le_trans ?_ (Nat.le_max_left _ _)
      rw [show (4503599627370496 : Nat) = 2 ^ 52 by rfl, ← Nat.pow_add]
      exact Nat.le_trans (Nat.pow_le_pow_right (by omega) (by omega)) (Nat.log2_self_le h0)
  generalize rne N (d + t) * 2 ^ (d + t) = a at *
  generalize 2 ^ (d + t) = p at *
  generalize max N (4503599627370496 * 2 ^ d) = b at *
  omega
/-- A whole number of units: no farther off than 2^-53 of it. -/
theorem rnd_err0 (N : Nat) : 9007199254740992 * mag (rnd N 0) ≤ 9007199254740992 * N + N ∧ 9007199254740992 * N ≤ 9007199254740992 * mag (rnd N 0) + N := by
  by_cases h : N < 4503599627370496
  · have hl : N.log2 - (0 + 52) = 0 := by
      by_cases h0 : N = 0
      · subst h0; rfl
      · have : N.log2 < 52 := (Nat.log2_lt h0).2 (by omega)
        omega
    have e : mag (rnd N 0) = N := by
      rw [mag_rnd, hl, rne_d0, Nat.pow_zero, Nat.mul_one]
    rw [e]; omega
  · have := rnd_err N 0
    rw [Nat.pow_zero, Nat.mul_one, Nat.mul_one, Nat.max_eq_left (by omega)] at this
    exact this
end Go.Proofs.Ytbeefnekblepfaa.Fl
/-
Sums and products of finite floats: the exact one, rounded once. Conditions: both are finite.
-/
set_option linter.unusedVariables false
namespace Go.Proofs.Ytbeefnekblepfaa.Fl
open Ieee

theorem scl_whole (N : Nat) : scl N 0 = cap (rnd N 0) := by
  unfold scl
  rw [if_pos (Int.le_refl 0)]
  simp
theorem scl_down (N d : Nat) (hd : 0 < d) : scl N (-(d : Int)) = cap (rnd N d) := by
  unfold scl
  rw [if_neg (by omega)]
  congr 2
  omega
theorem add_fin {x y : Nat} (hx : rung x < INF) (hy : rung y < INF) :
    ∃ s, double.add x y = some (wd s (cap (rnd (val x + val y).natAbs 0))) ∧ (val x + val y ≠ 0 → s = decide (val x + val y < 0)) := by
  obtain ⟨m, u, e, hm⟩ := read_fin hx
  obtain ⟨n, v, e2, hn⟩ := read_fin hy
  obtain ⟨k, hk⟩ : ∃ k, min u v = k := ⟨_, rfl⟩
  have hb : min (-1074 + (u : Int)) (-1074 + (v : Int)) = -1074 + (k : Int) := by omega
  have hu : (-1074 + (u : Int) - (-1074 + (k : Int))).toNat + k = u := by omega
  have hv : (-1074 + (v : Int) - (-1074 + (k : Int))).toNat + k = v := by omega
  obtain ⟨T, hT⟩ : ∃ T, signed (sg x) m (-1074 + (u : Int) - (-1074 + (k : Int))).toNat + signed (sg y) n (-1074 + (v : Int) - (-1074 + (k : Int))).toNat = T := ⟨_, rfl⟩
  have hv1 : signed (sg x) m u = val x := by rw [signed_val hm]; rfl
  have hv2 : signed (sg y) n v = val y := by rw [signed_val hn]; rfl
  have hTv : T * ((2 ^ k : Nat) : Int) = val x + val y := by
    rw [← hT, Int.add_mul, signed_pow, signed_pow, hu, hv, hv1, hv2]
  have hp : 0 < ((2 ^ k : Nat) : Int) := by have := Nat.two_pow_pos k; omega
  have habs : T.natAbs * 2 ^ k = (val x + val y).natAbs := by rw [← hTv, Int.natAbs_mul, Int.natAbs_natCast]
  have hneg : (T < 0) ↔ (val x + val y < 0) := by
    rw [← hTv]
    constructor
    · intro h; exact Int.mul_neg_of_neg_of_pos h hp
    · intro h
      rcases Int.lt_or_le T 0 with h1 | h1
      · exact h1
      · have := Int.mul_nonneg h1 (Int.le_of_lt hp); omega
  have hzero : T = 0 → val x + val y = 0 := by rintro rfl; rw [← hTv]; simp
  refine ⟨(if T = 0 then (sg x && sg y) else decide (T < 0)), ?_, ?_⟩
  · unfold Format.add
    rw [e, e2]
    simp only [Datum.sum, Option.map_some, Format.write, hb, hT]
    rw [nearest_scl, show (-1074 + (k : Int) + 1074) = ((k : Int) + 0) by omega, ← scl_shift, habs, scl_whole]
  · intro h0
    have : T ≠ 0 := fun h => h0 (hzero h)
    rw [if_neg this]
    exact decide_eq_decide.2 hneg
theorem mul_fin {x y : Nat} (hx : rung x < INF) (hy : rung y < INF) :
    double.mul x y = some (wd (sg x ^^ sg y) (cap (rnd (mag (rung x) * mag (rung y)) 1074))) := by
  obtain ⟨m, u, e, hm⟩ := read_fin hx
  obtain ⟨n, v, e2, hn⟩ := read_fin hy
  unfold Format.mul
  rw [e, e2]
  simp only [Datum.product, Option.map_some, Format.write]
  have h1 : scl (m * n) (-1074 + (u : Int) + (-1074 + (v : Int)) + 1074) = cap (rnd (mag (rung x) * mag (rung y)) 1074) := by
    rw [← scl_down _ 1074 (by omega), ← hm, ← hn, show m * 2 ^ u * (n * 2 ^ v) = m * n * 2 ^ (u + v) by rw [Nat.pow_add]; simp only [Nat.mul_assoc, Nat.mul_left_comm], scl_shift]
    congr 1
    omega
  rw [nearest_scl, h1]
end Go.Proofs.Ytbeefnekblepfaa.Fl
