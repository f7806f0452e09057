/-
The nearest float of a number: one function of the number, however it is reckoned. Conditions: as each says.
-/
import Derived.Test.YtbkbeglmfhaleaaGreatDoorUcn
import Derived.Test.YtbkbeglmfhaleaaGreatDoorUcm
import Derived.Test.YtbkbeglmfhaleaaGreatDoorUck
import Derived.Test.YtbkbeglmfhaleaaGreatDoorZRdU
import Derived.Test.YtbkbeglmfhaleaaGreatDoorW4
import Derived.Test.YtbkbeglmfhaleaaGreatDoorFdy
import Derived.Test.YtbkbeglmfhaleaaGreatDoorUcg
import Derived.Test.YtbkbeglmfhaleaaGreatDoorZRdW
import Derived.Test.YtbkbeglmfhaleaaGreatDoorUch
set_option linter.unusedVariables false
set_option linter.unusedSimpArgs false
namespace Go.Proofs.YtbkbeglmfhaleaaGreatDoor
open Go.RowKit

/-- The float nearest to the number. -/
def nearD (d : Dyadic) : Nat := Fl.wd (ng (mant d)) (Fl.scl (mant d).natAbs (expo d + 1074))
theorem near_zero : nearD 0 = 0 := by unfold nearD; rw [mant_zero]; rw [show (0 : Int).natAbs = 0 from rfl, Fl.scl_zero]; rfl
theorem near_dy (m e : Int) : nearD (dy m e) = Fl.wd (ng m) (Fl.scl m.natAbs (e + 1074)) := by
  by_cases h : m = 0
  · subst h; rw [dy_zero, near_zero, show (0 : Int).natAbs = 0 from rfl, Fl.scl_zero]; rfl
  · obtain ⟨y, v, hz, hy, ha, hb, hc⟩ := odd_part m h
    unfold nearD
    rw [(dy_parts (e := e) hz hy).1, (dy_parts (e := e) hz hy).2, ha, Fl.scl_shift]
    have h2 : (0 : Int) < 2 ^ v := by exact_mod_cast Nat.two_pow_pos v
    have e1 : ng y = ng m := by
      unfold ng
      rw [hz]
      by_cases hn : y < 0
      · rw [decide_eq_true hn, decide_eq_true (Int.mul_neg_of_neg_of_pos hn h2)]
      · rw [decide_eq_false hn, decide_eq_false (Int.not_lt.2 (Int.mul_nonneg (by omega) (by omega)))]
    rw [e1]
    congr 2
    omega
theorem near_lt (d : Dyadic) : nearD d < 18446744073709551616 := Fl.wd_lt _ (by have := Fl.scl_le (mant d).natAbs (expo d + 1074); unfold Fl.INF at this; omega)
theorem near_rung (d : Dyadic) : Fl.rung (nearD d) ≤ Fl.INF := by
  unfold nearD
  have := Fl.scl_le (mant d).natAbs (expo d + 1074)
  rw [Fl.rung_wd _ (by unfold Fl.INF at this; omega)]
  exact this
/-- A float is nearest to itself. -/
theorem near_float {b : Nat} (hb : b < 18446744073709551616) (hf : Fl.rung b < Fl.INF) : Fl.key (nearD (fdy b)) = Fl.key b ∧ Fl.rung (nearD (fdy b)) = Fl.rung b := by
  have e : nearD (fdy b) = Fl.wd (ng (Fl.val b)) (Fl.rung b) := by
    unfold fdy
    rw [near_dy]
    have ha : (Fl.val b).natAbs = Fl.mag (Fl.rung b) := by unfold Fl.val; split <;> simp
    rw [ha, show (-1074 + 1074 : Int) = 0 by rfl, Fl.scale_parts]
    have h1 := Fl.scl_exact (Fl.pm b) (Fl.pe b) (Fl.pm_lt b) (Fl.pm_pe b)
    rw [Int.add_zero, h1, ← Fl.rung_parts]
    congr 1
    unfold Fl.cap
    omega
  have hr := Fl.rung_lt b
  rw [e, Fl.rung_wd _ hr]
  refine ⟨?_, rfl⟩
  unfold Fl.key
  rw [Fl.rung_wd _ hr, Fl.sg_wd _ hr]
  by_cases h0 : Fl.rung b = 0
  · rw [h0]; simp
  · have hm : 0 < Fl.mag (Fl.rung b) := by
      have := Fl.mag_lt (Nat.pos_of_ne_zero h0)
      omega
    have : ng (Fl.val b) = Fl.sg b := by
      unfold ng Fl.val
      cases Fl.sg b
      · simp
      · simp; omega
    rw [this]
/-- What is rounded, once more than its first digits are known, with a digit for all the others. -/
theorem rne_stick {n t r D : Nat} (h0 : 0 < r) (h1 : r < 2 ^ t) (hD : t + 1 ≤ D) : Fl.rne (n * 2 ^ t + r) D = n / 2 ^ (D - t) + if 2 ^ (D - t) ≤ 2 * (n % 2 ^ (D - t)) then 1 else 0 := by
  obtain ⟨s, rfl⟩ : ∃ s, D = t + (s + 1) := ⟨D - t - 1, by omega⟩
  rw [show t + (s + 1) - t = s + 1 by omega]
  unfold Fl.rne
  have hp := Nat.two_pow_pos t
  have e1 : (n * 2 ^ t + r) / 2 ^ (t + (s + 1)) = n / 2 ^ (s + 1) := by
    rw [Nat.pow_add, ← Nat.div_div_eq_div_mul, Nat.mul_comm, Nat.mul_add_div hp, Nat.div_eq_of_lt h1, Nat.add_zero]
  have hpow : 2 ^ (t + (s + 1)) = 2 ^ (s + 1) * 2 ^ t := by rw [Nat.pow_add 2 t (s + 1), Nat.mul_comm]
  have e2 : (n * 2 ^ t + r) % 2 ^ (t + (s + 1)) = (n % 2 ^ (s + 1)) * 2 ^ t + r := by
    rw [hpow]
    generalize 2 ^ (s + 1) = S at *
    have hSp : 0 < S := by
      rcases Nat.eq_zero_or_pos S with h | h
      · rw [h, Nat.zero_mul] at hpow; have := Nat.two_pow_pos (t + (s + 1)); omega
      · exact h
    have hn := Nat.div_add_mod n S
    have hm := Nat.mod_lt n hSp
    generalize n % S = q at *
    generalize n / S = p at *
    generalize 2 ^ t = T at *
    have h4 : (q + 1) * T ≤ S * T := Nat.mul_le_mul_right _ hm
    rw [Nat.add_mul, Nat.one_mul] at h4
    have h5 : n * T + r = q * T + r + S * T * p := by
      rw [← hn, Nat.add_mul, Nat.mul_assoc, Nat.mul_comm p T, ← Nat.mul_assoc]
      omega
    rw [h5, Nat.add_mul_mod_self_left, Nat.mod_eq_of_lt (by omega)]
  rw [e1, e2]
  congr 1
  have hs : 2 ^ (s + 1) = 2 * 2 ^ s := by rw [Nat.pow_succ]; omega
  rw [hpow, hs, Nat.mul_comm (2 * 2 ^ s) (2 ^ t)]
  clear e1 e2 hpow
  generalize n % (2 * 2 ^ s) = q at *
  generalize 2 ^ s = p at *
  generalize hT : 2 ^ t = T at *
  by_cases hq : p ≤ q
  · have h7 : p * T ≤ q * T := Nat.mul_le_mul_right _ hq
    have h8 : T * (2 * p) = 2 * (p * T) := by rw [Nat.mul_comm T, Nat.mul_assoc]
    rw [if_pos (by left; rw [h8]; omega), if_pos (by omega)]
  · have h7 : (q + 1) * T ≤ p * T := Nat.mul_le_mul_right _ (by omega)
    rw [Nat.add_mul, Nat.one_mul] at h7
    have h8 : T * (2 * p) = 2 * (p * T) := by rw [Nat.mul_comm T, Nat.mul_assoc]
    rw [if_neg (by rw [h8]; rintro (h | ⟨h, _⟩) <;> omega), if_neg (by omega)]
theorem log_stick {n t r : Nat} (hn : n ≠ 0) (h1 : r < 2 ^ t) : (n * 2 ^ t + r).log2 = n.log2 + t := by
  have hb := Nat.log2_self_le hn
  have hb2 : n < 2 ^ (n.log2 + 1) := Nat.lt_log2_self
  have hne : n * 2 ^ t + r ≠ 0 := by have := Nat.mul_pos (Nat.pos_of_ne_zero hn) (Nat.two_pow_pos t); omega
  refine (Nat.log2_eq_iff hne).2 ⟨?_, ?_⟩
  · rw [Nat.pow_add]
    have := Nat.mul_le_mul_right (2 ^ t) hb
    omega
  · rw [show n.log2 + t + 1 = n.log2 + 1 + t by omega, Nat.pow_add]
    have h3 : (n + 1) * 2 ^ t ≤ 2 ^ (n.log2 + 1) * 2 ^ t := Nat.mul_le_mul_right _ hb2
    rw [Nat.add_mul, Nat.one_mul] at h3
    omega
theorem rnd_stick {n t r r' d : Nat} (hn : 9007199254740992 ≤ n) (h0 : 0 < r) (h1 : r < 2 ^ t) (h0' : 0 < r') (h1' : r' < 2 ^ t) : Fl.rnd (n * 2 ^ t + r) d = Fl.rnd (n * 2 ^ t + r') d := by
  have hl : 53 ≤ n.log2 := (Nat.le_log2 (by omega)).2 (by simpa using hn)
  unfold Fl.rnd
  rw [log_stick (by omega) h1, log_stick (by omega) h1', rne_stick h0 h1 (by omega), rne_stick h0' h1' (by omega)]
theorem scl_stick {n t r : Nat} (k : Int) (ht : 0 < t) (hn : 9007199254740992 ≤ n) (h0 : 0 < r) (h1 : r < 2 ^ t) : Fl.scl (n * 2 ^ t + r) k = Fl.scl (2 * n + 1) (((t - 1 : Nat) : Int) + k) := by
  have e : n * 2 ^ t + 2 ^ (t - 1) = (2 * n + 1) * 2 ^ (t - 1) := by
    obtain ⟨s, rfl⟩ : ∃ s, t = s + 1 := ⟨t - 1, by omega⟩
    rw [show s + 1 - 1 = s by omega, Nat.pow_succ, Nat.add_mul, Nat.one_mul]
    congr 1
    rw [Nat.mul_comm (2 ^ s) 2, ← Nat.mul_assoc, Nat.mul_comm n 2]
  have hq : 2 ^ (t - 1) < 2 ^ t := Nat.pow_lt_pow_right (by omega) (by omega)
  rw [← Fl.scl_shift, ← e]
  unfold Fl.scl
  by_cases hk : 0 ≤ k
  · rw [if_pos hk, if_pos hk, Nat.add_mul, Nat.add_mul, Nat.mul_assoc, ← Nat.pow_add]
    rw [rnd_stick hn (Nat.mul_pos h0 (Nat.two_pow_pos _)) (by rw [Nat.pow_add]; exact Nat.mul_lt_mul_of_pos_right h1 (Nat.two_pow_pos _)) (Nat.mul_pos (Nat.two_pow_pos (t - 1)) (Nat.two_pow_pos k.toNat)) (by rw [Nat.pow_add]; exact Nat.mul_lt_mul_of_pos_right hq (Nat.two_pow_pos _))]
  · rw [if_neg hk, if_neg hk, rnd_stick hn h0 h1 (Nat.two_pow_pos _) hq]
/-- The document's digits, cut off behind 60 of them. -/
theorem near_cut {b : List Nat} {e : Int} (neg : Bool) (hT : Two b) (hh : b.head? = some 1) (hl : b.getLast? = some 1) (h60 : 60 < b.length) :
    Fl.wd neg (Fl.scl (hv b) (e + 1074)) = mk neg (2 * hv (b.take 60) + 1) (e + (b.length : Int) - 60 - 1) := by
  have hs : hv b = hv (b.take 60) * 2 ^ (b.length - 60) + hv (b.drop 60) := by
    have := hv_append (b.take 60) (b.drop 60)
    rw [List.take_append_drop, List.length_drop] at this
    exact this
  have hd : hv (b.drop 60) < 2 ^ (b.length - 60) := by
    have := hv_lt (b := b.drop 60) (fun x hx => hT x (List.mem_of_mem_drop hx))
    rw [List.length_drop] at this
    exact this
  have hdo : (b.drop 60).getLast? = some 1 := by rw [List.getLast?_drop]; rw [if_neg (by omega)]; exact hl
  have hod := hv_odd hdo
  have hn : 9007199254740992 ≤ hv (b.take 60) := by
    cases b with
    | nil => cases hh
    | cons x t =>
      have hx : x = 1 := by simpa using hh
      subst hx
      rw [show (1 :: t).take 60 = 1 :: t.take 59 from rfl, hv_cons]
      have hlen : (t.take 59).length = 59 := by rw [List.length_take]; simp at h60; omega
      rw [hlen]
      have : (1 : Nat) * 2 ^ 59 = 576460752303423488 := by decide
      omega
  unfold mk
  rw [hs, scl_stick (e + 1074) (by omega) hn (by omega) hd]
  congr 2
  omega
/-- Far above all floats. -/
theorem scl_huge {m : Nat} {k : Int} (h0 : m ≠ 0) (h : 2098 ≤ (m.log2 : Int) + k) : Fl.scl m k = Fl.INF := by
  have hb := Nat.log2_self_le h0
  have hb2 : m < 2 ^ (m.log2 + 1) := Nat.lt_log2_self
  by_cases hs : m.log2 < 52
  · have e := Fl.scl_shift m (52 - m.log2) (k - ((52 - m.log2 : Nat) : Int))
    rw [show (((52 - m.log2 : Nat) : Int) + (k - ((52 - m.log2 : Nat) : Int))) = k by omega] at e
    rw [← e]
    obtain ⟨q, hq⟩ : ∃ q : Nat, k - ((52 - m.log2 : Nat) : Int) = (q : Int) := ⟨(k - ((52 - m.log2 : Nat) : Int)).toNat, by omega⟩
    have h1 : 4503599627370496 ≤ m * 2 ^ (52 - m.log2) := by
      have := Nat.mul_le_mul_right (2 ^ (52 - m.log2)) hb
      rw [← Nat.pow_add, show m.log2 + (52 - m.log2) = 52 by omega] at this
      simpa using this
    have h2 : m * 2 ^ (52 - m.log2) < 9007199254740992 := by
      have := Nat.mul_lt_mul_of_pos_right hb2 (Nat.two_pow_pos (52 - m.log2))
      rw [← Nat.pow_add, show m.log2 + 1 + (52 - m.log2) = 53 by omega] at this
      simpa using this
    rw [hq, Fl.scl_exact _ q h2 (.inl h1)]
    unfold Fl.cap Fl.INF
    omega
  · obtain ⟨i, hi⟩ : ∃ i, m.log2 = 52 + i := ⟨m.log2 - 52, by omega⟩
    obtain ⟨q, hq⟩ : ∃ q : Nat, k = (q : Int) - (i : Int) := ⟨(k + i).toNat, by omega⟩
    have hp := Nat.two_pow_pos i
    rw [hi, Nat.pow_add] at hb
    rw [hi, show 52 + i + 1 = 53 + i by omega, Nat.pow_add] at hb2
    have h1 : 4503599627370496 ≤ m / 2 ^ i := (Nat.le_div_iff_mul_le hp).2 (by simpa using hb)
    have h2 : m / 2 ^ i < 9007199254740992 := (Nat.div_lt_iff_lt_mul hp).2 (by simpa using hb2)
    rw [hq, Fl.scl_place m i q h2 (.inl h1)]
    have h3 : m / 2 ^ i ≤ Fl.rne m i := by unfold Fl.rne; omega
    unfold Fl.cap Fl.INF
    omega
theorem mag_place {q m : Nat} (h1 : 4503599627370496 ≤ m) (h2 : m ≤ 9007199254740992) : Fl.mag (q * 4503599627370496 + m) = m * 2 ^ q := by
  unfold Fl.mag
  rw [if_neg (by omega)]
  by_cases h : m = 9007199254740992
  · subst h
    rw [show (q * 4503599627370496 + 9007199254740992) % 4503599627370496 = 0 by omega, show (q * 4503599627370496 + 9007199254740992) / 4503599627370496 - 1 = q + 1 by omega, Nat.pow_succ]
    omega
  · rw [show (q * 4503599627370496 + m) % 4503599627370496 = m - 4503599627370496 by omega, show (q * 4503599627370496 + m) / 4503599627370496 - 1 = q by omega, show 4503599627370496 + (m - 4503599627370496) = m by omega]
theorem cap_small {q M : Nat} (hq : q ≤ 1074) (hM : M ≤ 9007199254740992) : Fl.cap (q * 4503599627370496 + M) = q * 4503599627370496 + M := Nat.min_eq_left (by rw [Fl.INF_val]; omega)
theorem small_place {q M : Nat} (hq : q ≤ 1074) (hM : M ≤ 9007199254740992) (h1 : 4503599627370496 ≤ M) : q * 4503599627370496 + M < 9223372036854775808 ∧ ¬ (q * 4503599627370496 + M = 0 ∨ Fl.INF ≤ q * 4503599627370496 + M) := by
  rw [Fl.INF_val]; omega
/-- A whole number as a float, scaled. -/
theorem scale_whole {m : Nat} (k : Int) (h : m ≤ 9007199254740992) : Fl.scale (Fl.wd false (Fl.scl m 1074)) k = Fl.wd false (Fl.scl m (k + 1074)) := by
  by_cases h0 : m = 0
  · subst h0
    rw [Fl.scl_zero, Fl.scl_zero]
    unfold Fl.scale
    rw [if_pos (.inl (by decide))]
  · have hb := Nat.log2_self_le h0
    have hb2 : m < 2 ^ (m.log2 + 1) := Nat.lt_log2_self
    have hl : m.log2 ≤ 53 := by
      rcases Nat.lt_or_ge 53 m.log2 with h9 | h9
      · have : 2 ^ 54 ≤ 2 ^ m.log2 := Nat.pow_le_pow_right (by omega) h9
        have e : (2 : Nat) ^ 54 = 18014398509481984 := by decide
        rw [e] at this
        omega
      · exact h9
    have h1 : 4503599627370496 ≤ m * 2 ^ (52 - m.log2) := by
      by_cases h53 : m.log2 = 53
      · rw [h53] at hb ⊢
        have e : (2 : Nat) ^ 53 = 9007199254740992 := by decide
        rw [e] at hb
        simp
        omega
      · have := Nat.mul_le_mul_right (2 ^ (52 - m.log2)) hb
        rw [← Nat.pow_add, show m.log2 + (52 - m.log2) = 52 by omega] at this
        simpa using this
    have h2 : m * 2 ^ (52 - m.log2) ≤ 9007199254740992 := by
      by_cases h53 : 52 ≤ m.log2
      · rw [show 52 - m.log2 = 0 by omega]; simpa using h
      · have := Nat.mul_lt_mul_of_pos_right hb2 (Nat.two_pow_pos (52 - m.log2))
        rw [← Nat.pow_add, show m.log2 + 1 + (52 - m.log2) = 53 by omega] at this
        have e : (2 : Nat) ^ 53 = 9007199254740992 := by decide
        rw [e] at this
        omega
    obtain ⟨j, hj⟩ : ∃ j, 52 - m.log2 = j := ⟨_, rfl⟩
    rw [hj] at h1 h2
    have hj52 : j ≤ 52 := by omega
    obtain ⟨q, hq⟩ : ∃ q : Nat, q = 1074 - j := ⟨_, rfl⟩
    have e1 : Fl.scl m 1074 = q * 4503599627370496 + m * 2 ^ j := by
      have e := Fl.scl_shift m j (q : Int)
      rw [show ((j : Int) + (q : Int)) = 1074 by omega] at e
      rw [← e, Fl.scl_exact' _ q h2 (.inl h1)]
      exact cap_small (by omega) h2
    obtain ⟨hR, hR2⟩ := small_place (q := q) (by omega) h2 h1
    unfold Fl.scale
    rw [e1, Fl.rung_wd _ hR, Fl.sg_wd _ hR, if_neg hR2, mag_place h1 h2, Nat.mul_assoc, ← Nat.pow_add, Fl.scl_shift, show (((j + q : Nat) : Int) + k) = k + 1074 by omega]
/-- How the program rounds. -/
theorem near_keep {m i : Nat} {x : Int} {q : Nat} (hx : x + 1074 = (q : Int) - (i : Int)) (h1 : m / 2 ^ i < 9007199254740992) (h2 : 4503599627370496 ≤ m / 2 ^ i ∨ q = 0) : Fl.scl (Fl.rne m i) ((q : Int)) = Fl.scl m (x + 1074) := by
  have h3 : m / 2 ^ i ≤ Fl.rne m i ∧ Fl.rne m i ≤ m / 2 ^ i + 1 := by
    unfold Fl.rne
    split <;> omega
  rw [hx, Fl.scl_place m i q h1 h2, Fl.scl_exact' _ q (by omega) (by omega)]
theorem near_odd {m i : Nat} (hm : m % 2 = 1) (hi : 0 < i) : Fl.rne m i = m / 2 ^ i + if m / 2 ^ (i - 1) % 2 = 1 ∧ (i ≠ 1 ∨ m / 2 ^ i % 2 = 1) then 1 else 0 := by
  rw [rne_lost]
  congr 1
  have e1 : halfB m i = decide (m / 2 ^ (i - 1) % 2 = 1) := by unfold halfB; rw [if_neg (by omega)]
  have e2 : lostB m i = decide (i ≠ 1) := by
    unfold lostB
    rw [if_neg (by omega)]
    by_cases h : i = 1
    · subst h; simp [Nat.mod_one]
    · have : m % 2 ^ (i - 1) ≠ 0 := fun h0 => by
        have hd : 2 ∣ 2 ^ (i - 1) := ⟨2 ^ (i - 2), by rw [show i - 1 = i - 2 + 1 by omega, Nat.pow_succ, Nat.mul_comm]⟩
        have := Nat.mod_mod_of_dvd m hd
        rw [h0] at this
        omega
      simp [h, this]
  rw [e1, e2]
  simp only [decide_eq_true_eq]
theorem near_pos {d : Dyadic} {m : Nat} (hm : mant d = (m : Int)) : nearD d = Fl.wd false (Fl.scl m (expo d + 1074)) := by
  unfold nearD
  rw [hm]
  have : ng (m : Int) = false := by unfold ng; simp
  rw [this]
  rfl
theorem near_inf {d : Dyadic} {m : Nat} (hm : mant d = (m : Int)) (h0 : m ≠ 0) (h : 1025 ≤ fin d) : nearD d = 9218868437227405312 := by
  rw [near_pos hm, scl_huge h0 (by unfold fin at h; rw [hm, show ((m : Int)).natAbs = m from rfl] at h; unfold bl at h; rw [if_neg h0] at h; omega)]
  rfl
theorem near_none {d : Dyadic} {m : Nat} (hm : mant d = (m : Int)) (h0 : m ≠ 0) (h : fin d ≤ -1075) : nearD d = 0 := by
  rw [near_pos hm, Fl.scl_low]
  · rfl
  · have hb := (bl_bounds h0).2
    unfold fin at h
    rw [hm, show ((m : Int)).natAbs = m from rfl] at h
    obtain ⟨t, ht⟩ : ∃ t : Nat, (-(expo d + 1074)).toNat = bl m + 1 + t := ⟨(-(expo d + 1074)).toNat - (bl m + 1), by omega⟩
    rw [ht, Nat.pow_add, Nat.pow_succ]
    have := Nat.two_pow_pos t
    have h9 : 2 ^ bl m * 2 * 1 ≤ 2 ^ bl m * 2 * 2 ^ t := Nat.mul_le_mul_left _ this
    omega
  · unfold fin at h; omega
theorem float_word (m : Nat) : floatOfInt .f64 (m : Int) = Fl.wd false (Fl.scl m 1074) := by
  have h := Fl.nearest_scl false m 0
  rw [Int.zero_add] at h
  rw [← h]
  unfold floatOfInt FloatKind.nearest
  have : decide ((m : Int) < 0) = false := by simp
  first | rfl | (simp [this]; rfl) | simp [this]
theorem scale_q {q : Nat} {z : Int} (hz : z = (q : Int)) (hq : q ≤ 9007199254740992) (k : Int) {r : Nat} (hr : Fl.wd false (Fl.scl q (k + 1074)) = r) (W : World) : Calls Tryz.prog 63 #[.float .f64 (floatOfInt .f64 z), .int .i64 k] W fun e w' => e = .returned (.float .f64 r) ∧ Below W.heap.size W w' := by
  subst hz
  rw [← hr, ← scale_whole k hq, float_word]
  exact scale_any _ k W (Fl.wd_lt _ (by have := Fl.scl_le q 1074; unfold Fl.INF at this; omega))
theorem near_win {m j : Nat} {X lw : Int} (h0 : m ≠ 0) (hl : max (X + (bl m : Int) - 1 - 52) (-1074) = lw) (hj : lw - X = (j : Int) + 1) :
    m / 2 ^ (j + 1) < 9007199254740992 ∧ win m (j + 1) = m / 2 ^ (j + 1) ∧ win m j = m / 2 ^ j ∧ ∃ q : Nat, lw = (q : Int) - 1074 ∧ X + 1074 = (q : Int) - ((j + 1 : Nat) : Int) ∧ (4503599627370496 ≤ m / 2 ^ (j + 1) ∨ q = 0) := by
  obtain ⟨hb1, hb2⟩ := bl_bounds h0
  have hbl : bl m ≤ 53 + (j + 1) := by omega
  have h1 : m < 2 ^ (53 + (j + 1)) := Nat.lt_of_lt_of_le hb2 (Nat.pow_le_pow_right (by omega) hbl)
  have e53 : (2 : Nat) ^ 53 = 9007199254740992 := by decide
  have e54 : (2 : Nat) ^ 54 = 18014398509481984 := by decide
  have e52 : (2 : Nat) ^ 52 = 4503599627370496 := by decide
  have h2 : m / 2 ^ (j + 1) < 9007199254740992 := by
    rw [← e53]
    exact (Nat.div_lt_iff_lt_mul (Nat.two_pow_pos _)).2 (by rw [← Nat.pow_add]; exact h1)
  have h3 : m / 2 ^ j < 18014398509481984 := by
    rw [← e54]
    exact (Nat.div_lt_iff_lt_mul (Nat.two_pow_pos _)).2 (by rw [← Nat.pow_add]; rw [show 54 + j = 53 + (j + 1) by omega]; exact h1)
  refine ⟨h2, Nat.mod_eq_of_lt (by omega), Nat.mod_eq_of_lt (by omega), (lw + 1074).toNat, by omega, by omega, ?_⟩
  by_cases h : lw = -1074
  · right; omega
  · left
    rw [← e52]
    refine (Nat.le_div_iff_mul_le (Nat.two_pow_pos _)).2 ?_
    rw [← Nat.pow_add]
    exact Nat.le_trans (Nat.pow_le_pow_right (by omega) (by omega)) hb1
theorem near_win0 {m : Nat} {X lw : Int} (h0 : m ≠ 0) (hl : max (X + (bl m : Int) - 1 - 52) (-1074) = lw) (hd : lw - X ≤ 0) : m < 9007199254740992 ∧ win m 0 = m := by
  obtain ⟨hb1, hb2⟩ := bl_bounds h0
  have e53 : (2 : Nat) ^ 53 = 9007199254740992 := by decide
  have h1 : m < 9007199254740992 := by
    rw [← e53]
    exact Nat.lt_of_lt_of_le hb2 (Nat.pow_le_pow_right (by omega) (by omega))
  refine ⟨h1, ?_⟩
  unfold win
  rw [Nat.pow_zero, Nat.div_one, Nat.mod_eq_of_lt (by omega)]
end Go.Proofs.YtbkbeglmfhaleaaGreatDoor
/-
The program's Near. Conditions: numbers of few digits; the library's tables are as its text lays them.
-/
set_option linter.unusedVariables false
set_option linter.unusedSimpArgs false
set_option linter.unnecessarySimpa false
namespace Go.Proofs.YtbkbeglmfhaleaaGreatDoor
open Go.RowKit
attribute [local go_sem ↓] Go.wp_at_zero Go.wp_at_succ

attribute [local go_sem ↓] ib_and_1
theorem clamp_wv {v : Value} {z : Int} {w : World} (lo hi : Int) (h : WV w v z) (hz : z.natAbs < 9223372036854775807) : Calls Tryz.prog 61 #[v, .int .i64 lo, .int .i64 hi] w fun e w' => e = .returned (.int .i64 (min (max z lo) hi)) ∧ Below w.heap.size w w' := by
  obtain ⟨A, n, c, rfl, h1⟩ := h
  exact clamp_any A n c z lo hi w h1 hz
theorem inf_one (w : World) : Calls Tryz.prog 62 #[.int .i64 1] w fun e w' => e = .returned (.float .f64 9218868437227405312) ∧ w = w' := by
  go_enter Tryz.func62, Tryz.ntmps62
  go_wp2_with fail
  go_ret
  exact ⟨rfl, rfl⟩
set_option maxRecDepth 100000 in
set_option maxHeartbeats 4000000 in
theorem near_hi (x : D4) (m : Nat) (w : World) (hx : x.ok w) (hm : mant x.d = (m : Int)) (h0 : m ≠ 0) (K : Nat) (hK : K ≤ 134216000) (hk : Sz K x.d) (hg : Glob w) (hF : 1025 ≤ fin x.d) :
    Calls Tryz.prog 24 #[x.val] w fun e w' => e = .returned (.float .f64 (nearD x.d)) ∧ Below w.heap.size w w' := by
  rw [near_inf hm h0 hF]
  have HF := Lib.hid (fun W (h : PV W x.val x.d) => fin_wv h (hk.fitp (by omega)))
  have HCl := Lib.hid (fun W v (h : WV W v (fin x.d)) => clamp_wv (-1075) 1025 h (by have := hk.expo_.2; omega))
  have HS := Lib.hid (fun W (h : PV W x.val x.d) => psign_v h)
  have hsg : (mant x.d).sign = 1 := by rw [hm]; exact Int.sign_eq_one_of_pos (by omega)
  rw [hsg] at HS
  unfold D4.val at HS HF
  have HX := Lib.hid hx
  have HM := Lib.hid hm
  have HG := Lib.hid hg
  have hk2 := hk.expo_
  clear hx hg hsg hm
  rw [show min (max (fin x.d) (-1075)) 1025 = 1025 by omega] at HCl
  clear hk2
  obtain ⟨zz, hzz⟩ : ∃ zz, w.heap.size = zz := ⟨_, rfl⟩
  have HZl := Lib.hid hzz
  have HX0 := Lib.hid (Blk.new_ w 37 #[.bool (ng (mant x.d)), .slice x.A x.n x.c, .bool (ng (expo x.d)), .slice x.A' x.n' x.c'] zz hzz)
  have HP0 := Lib.hid (HX.out.below (below_one (o := .cells #[.bool (ng (mant x.d)), .slice x.A x.n x.c, .bool (ng (expo x.d)), .slice x.A' x.n' x.c'] 37)))
  have HB0 := Lib.hid (show Below zz w (w.alloc (.cells #[.bool (ng (mant x.d)), .slice x.A x.n x.c, .bool (ng (expo x.d)), .slice x.A' x.n' x.c'] 37)) from by rw [← hzz]; exact below_one)
  unfold D4.val
  go_enter Tryz.func24, Tryz.ntmps24
  obtain ⟨k0, k1, k2, k3, _⟩ := cells4 HX0.out
  go_wp2_with fail
  refine (HS.out _ HP0.out.pv).mono ?_
  rintro e w1 ⟨rfl, hb⟩
  clear k0 k1 k2 k3
  have HX1 := Lib.hid (HX0.out.below hb HX0.out.lt)
  have HP1 := Lib.hid (HP0.out.below hb)
  have HB1 := Lib.hid (bz HZl.out HB0.out hb)
  clear hb
  obtain ⟨k0, k1, k2, k3, _⟩ := cells4 HX1.out
  go_wp2_with fail
  refine (HF.out _ HP1.out.pv).mono ?_
  rintro e w2 ⟨u, rfl, hu, hb⟩
  clear k0 k1 k2 k3
  have HX2 := Lib.hid (HX1.out.below hb HX1.out.lt)
  have HP2 := Lib.hid (HP1.out.below hb)
  have HB2 := Lib.hid (bz HZl.out HB1.out hb)
  have HU := Lib.hid hu
  clear hb hu
  go_wp2_with fail
  refine (HCl.out _ _ HU.out).mono ?_
  rintro e w3 ⟨rfl, hb⟩
  have HX3 := Lib.hid (HX2.out.below hb HX2.out.lt)
  have HP3 := Lib.hid (HP2.out.below hb)
  have HB3 := Lib.hid (bz HZl.out HB2.out hb)
  clear hb HX0 HX1 HX2 HP0 HP1 HP2 HB0 HB1 HB2 HU
  obtain ⟨k0, k1, k2, k3, _⟩ := cells4 HX3.out
  go_wp2_with fail
  refine (inf_one _).mono ?_
  rintro e w4 ⟨rfl, rfl⟩
  go_wp2_with fail
  go_ret
  exact ⟨rfl, by rw [HZl.out]; exact HB3.out⟩
set_option maxRecDepth 100000 in
set_option maxHeartbeats 4000000 in
theorem near_lo (x : D4) (m : Nat) (w : World) (hx : x.ok w) (hm : mant x.d = (m : Int)) (h0 : m ≠ 0) (K : Nat) (hK : K ≤ 134216000) (hk : Sz K x.d) (hg : Glob w) (hF : fin x.d ≤ -1075) :
    Calls Tryz.prog 24 #[x.val] w fun e w' => e = .returned (.float .f64 (nearD x.d)) ∧ Below w.heap.size w w' := by
  rw [near_none hm h0 hF]
  have HF := Lib.hid (fun W (h : PV W x.val x.d) => fin_wv h (hk.fitp (by omega)))
  have HCl := Lib.hid (fun W v (h : WV W v (fin x.d)) => clamp_wv (-1075) 1025 h (by have := hk.expo_.2; omega))
  have HS := Lib.hid (fun W (h : PV W x.val x.d) => psign_v h)
  have hsg : (mant x.d).sign = 1 := by rw [hm]; exact Int.sign_eq_one_of_pos (by omega)
  rw [hsg] at HS
  unfold D4.val at HS HF
  have HX := Lib.hid hx
  have HM := Lib.hid hm
  have HG := Lib.hid hg
  have hk2 := hk.expo_
  clear hx hg hsg hm
  rw [show min (max (fin x.d) (-1075)) 1025 = -1075 by omega] at HCl
  clear hk2
  obtain ⟨zz, hzz⟩ : ∃ zz, w.heap.size = zz := ⟨_, rfl⟩
  have HZl := Lib.hid hzz
  have HX0 := Lib.hid (Blk.new_ w 37 #[.bool (ng (mant x.d)), .slice x.A x.n x.c, .bool (ng (expo x.d)), .slice x.A' x.n' x.c'] zz hzz)
  have HP0 := Lib.hid (HX.out.below (below_one (o := .cells #[.bool (ng (mant x.d)), .slice x.A x.n x.c, .bool (ng (expo x.d)), .slice x.A' x.n' x.c'] 37)))
  have HB0 := Lib.hid (show Below zz w (w.alloc (.cells #[.bool (ng (mant x.d)), .slice x.A x.n x.c, .bool (ng (expo x.d)), .slice x.A' x.n' x.c'] 37)) from by rw [← hzz]; exact below_one)
  unfold D4.val
  go_enter Tryz.func24, Tryz.ntmps24
  obtain ⟨k0, k1, k2, k3, _⟩ := cells4 HX0.out
  go_wp2_with fail
  refine (HS.out _ HP0.out.pv).mono ?_
  rintro e w1 ⟨rfl, hb⟩
  clear k0 k1 k2 k3
  have HX1 := Lib.hid (HX0.out.below hb HX0.out.lt)
  have HP1 := Lib.hid (HP0.out.below hb)
  have HB1 := Lib.hid (bz HZl.out HB0.out hb)
  clear hb
  obtain ⟨k0, k1, k2, k3, _⟩ := cells4 HX1.out
  go_wp2_with fail
  refine (HF.out _ HP1.out.pv).mono ?_
  rintro e w2 ⟨u, rfl, hu, hb⟩
  clear k0 k1 k2 k3
  have HX2 := Lib.hid (HX1.out.below hb HX1.out.lt)
  have HP2 := Lib.hid (HP1.out.below hb)
  have HB2 := Lib.hid (bz HZl.out HB1.out hb)
  have HU := Lib.hid hu
  clear hb hu
  go_wp2_with fail
  refine (HCl.out _ _ HU.out).mono ?_
  rintro e w3 ⟨rfl, hb⟩
  have HX3 := Lib.hid (HX2.out.below hb HX2.out.lt)
  have HP3 := Lib.hid (HP2.out.below hb)
  have HB3 := Lib.hid (bz HZl.out HB2.out hb)
  clear hb HX0 HX1 HX2 HP0 HP1 HP2 HB0 HB1 HB2 HU
  obtain ⟨k0, k1, k2, k3, _⟩ := cells4 HX3.out
  go_wp2_with fail
  go_ret
  exact ⟨rfl, by rw [HZl.out]; exact HB3.out⟩
set_option maxRecDepth 100000 in
set_option maxHeartbeats 4000000 in
theorem near_mid (x : D4) (m : Nat) (w : World) (hx : x.ok w) (hm : mant x.d = (m : Int)) (h0 : m ≠ 0) (K : Nat) (hK : K ≤ 134216000) (hk : Sz K x.d) (hg : Glob w) (hF : -1074 ≤ fin x.d) (hF2 : fin x.d ≤ 1024) :
    Calls Tryz.prog 24 #[x.val] w fun e w' => e = .returned (.float .f64 (nearD x.d)) ∧ Below w.heap.size w w' := by
  have HMo := Lib.hid (show m % 2 = 1 from by have h := mant_odd x.d (fun e => h0 (by rw [e, mant_zero] at hm; omega)); rw [hm] at h; omega)
  have hwn : x.n ≤ 1099511627776 := by rw [hx.1.1]; have := (hk.fitp (by omega)).1; omega
  have HF := Lib.hid (fun W (h : PV W x.val x.d) => fin_wv h (hk.fitp (by omega)))
  have HCl := Lib.hid (fun W v (h : WV W v (fin x.d)) => clamp_wv (-1075) 1025 h (by have := hk.expo_.2; omega))
  have HS := Lib.hid (fun W (h : PV W x.val x.d) => psign_v h)
  have hsg : (mant x.d).sign = 1 := by rw [hm]; exact Int.sign_eq_one_of_pos (by omega)
  rw [hsg] at HS
  unfold D4.val at HS HF
  have HX := Lib.hid hx
  have HM := Lib.hid hm
  have HG := Lib.hid hg
  have hk2 := hk.expo_
  clear hx hg hsg hm
  rw [show min (max (fin x.d) (-1075)) 1025 = fin x.d by omega] at HCl
  have hw8 : fin x.d = expo x.d + (bl m : Int) := by unfold fin; rw [HM.out]; rfl
  have HW := Lib.hid (fun W (h : x.ok W) => width_any x.A x.n x.c (mant x.d) W h.1 hwn)
  have HWi := Lib.hid (fun k W (h : x.ok W) (hk : k ≤ 140737488355328) => window_any x.A x.n x.c (mant x.d) k W h.1 hwn hk)
  rw [HM.out, show ((m : Int)).natAbs = m from rfl] at HW HWi
  have HW0 := Lib.hid (fun W (h : x.ok W) => HWi.out 0 W h (by omega))
  rw [show ((0 : Nat) : Int) = 0 from rfl] at HW0
  rw [← HM.out] at HW HWi HW0
  obtain ⟨lw, hlw⟩ : ∃ lw, max (expo x.d + (bl m : Int) - 1 - 52) (-1074) = lw := ⟨_, rfl⟩
  obtain ⟨zz, hzz⟩ : ∃ zz, w.heap.size = zz := ⟨_, rfl⟩
  have HZl := Lib.hid hzz
  have HX0 := Lib.hid (Blk.new_ w 37 #[.bool (ng (mant x.d)), .slice x.A x.n x.c, .bool (ng (expo x.d)), .slice x.A' x.n' x.c'] zz hzz)
  have HP0 := Lib.hid (HX.out.below (below_one (o := .cells #[.bool (ng (mant x.d)), .slice x.A x.n x.c, .bool (ng (expo x.d)), .slice x.A' x.n' x.c'] 37)))
  have HB0 := Lib.hid (show Below zz w (w.alloc (.cells #[.bool (ng (mant x.d)), .slice x.A x.n x.c, .bool (ng (expo x.d)), .slice x.A' x.n' x.c'] 37)) from by rw [← hzz]; exact below_one)
  unfold D4.val
  go_enter Tryz.func24, Tryz.ntmps24
  obtain ⟨k0, k1, k2, k3, _⟩ := cells4 HX0.out
  go_wp2_with fail
  refine (HS.out _ HP0.out.pv).mono ?_
  rintro e w1 ⟨rfl, hb⟩
  clear k0 k1 k2 k3
  have HX1 := Lib.hid (HX0.out.below hb HX0.out.lt)
  have HP1 := Lib.hid (HP0.out.below hb)
  have HB1 := Lib.hid (bz HZl.out HB0.out hb)
  clear hb
  obtain ⟨k0, k1, k2, k3, _⟩ := cells4 HX1.out
  go_wp2_with fail
  refine (HF.out _ HP1.out.pv).mono ?_
  rintro e w2 ⟨u, rfl, hu, hb⟩
  clear k0 k1 k2 k3
  have HX2 := Lib.hid (HX1.out.below hb HX1.out.lt)
  have HP2 := Lib.hid (HP1.out.below hb)
  have HB2 := Lib.hid (bz HZl.out HB1.out hb)
  have HU := Lib.hid hu
  clear hb hu
  go_wp2_with fail
  refine (HCl.out _ _ HU.out).mono ?_
  rintro e w3 ⟨rfl, hb⟩
  have HX3 := Lib.hid (HX2.out.below hb HX2.out.lt)
  have HP3 := Lib.hid (HP2.out.below hb)
  have HB3 := Lib.hid (bz HZl.out HB2.out hb)
  clear hb HX0 HX1 HX2 HP0 HP1 HP2 HB0 HB1 HB2 HU
  obtain ⟨k0, k1, k2, k3, _⟩ := cells4 HX3.out
  go_wp2_with fail
  refine (HW.out _ HP3.out).mono ?_
  rintro e w4 ⟨rfl, hb⟩
  clear k0 k1 k2 k3
  have HX4 := Lib.hid (HX3.out.below hb HX3.out.lt)
  have HP4 := Lib.hid (HP3.out.below hb)
  have HB4 := Lib.hid (bz HZl.out HB3.out hb)
  clear hb HX3 HP3 HB3
  obtain ⟨k0, k1, k2, k3, _⟩ := cells4 HX4.out
  by_cases hdr : lw - expo x.d ≤ 0
  · obtain ⟨hm53, hwin⟩ := near_win0 h0 hlw hdr
    rw [hwin] at HW0
    have HSc := Lib.hid (fun W => scale_q (z := (m : Int)) rfl (by omega) (expo x.d) (near_pos HM.out).symm W)
    clear hwin
    go_wp2_with fail
    refine (HW0.out _ HP4.out).mono ?_
    rintro e w5 ⟨rfl, hb⟩
    have HB5 := Lib.hid (bz HZl.out HB4.out hb)
    clear hb k0 k1 k2 k3
    have hlx : lw - (lw - expo x.d) = expo x.d := by omega
    go_wp2_with fail
    refine (HSc.out _).mono ?_
    rintro e w6 ⟨rfl, hb⟩
    have HB6 := Lib.hid (bz HZl.out HB5.out hb)
    clear hb
    go_wp2_with fail
    go_ret
    exact ⟨rfl, by rw [HZl.out]; exact HB6.out⟩
  · obtain ⟨j, hj⟩ : ∃ j : Nat, lw - expo x.d = (j : Int) + 1 := ⟨(lw - expo x.d - 1).toNat, by omega⟩
    obtain ⟨hk53, hw1, hw0, qq, hq1, hq2, hq3⟩ := near_win h0 hlw hj
    have hj2 : j + 1 ≤ 140737488355328 := by have := hk2.1; omega
    have hkp := near_keep hq2 hk53 hq3
    have hno := near_odd HMo.out (Nat.succ_pos j)
    have HW1 := Lib.hid (fun W (h : x.ok W) => HWi.out (j + 1) W h hj2)
    have HW2 := Lib.hid (fun W (h : x.ok W) => HWi.out j W h (by omega))
    rw [hw1, show ((j + 1 : Nat) : Int) = (j : Int) + 1 from rfl] at HW1
    rw [hw0] at HW2
    obtain ⟨kp, hkp9⟩ : ∃ kp, m / 2 ^ (j + 1) = kp := ⟨_, rfl⟩
    obtain ⟨hf, hhf⟩ : ∃ hf, m / 2 ^ j = hf := ⟨_, rfl⟩
    rw [hkp9] at HW1 hno hk53
    rw [show j + 1 - 1 = j by omega, hhf] at hno
    rw [hhf] at HW2
    have HK53 := Lib.hid hk53
    clear hw1 hw0 hq3 hkp9 hhf hj2 HWi
    have HNo := Lib.hid hno
    have HKp := Lib.hid hkp
    have HNp := Lib.hid (near_pos HM.out)
    have HQ1 := Lib.hid hq1
    clear hk53 hno hkp hq1 hq2
    go_wp2_with fail
    refine (HW1.out _ HP4.out).mono ?_
    rintro e w5 ⟨rfl, hb⟩
    have HX5 := Lib.hid (HX4.out.below hb HX4.out.lt)
    have HP5 := Lib.hid (HP4.out.below hb)
    have HB5 := Lib.hid (bz HZl.out HB4.out hb)
    clear hb k0 k1 k2 k3
    obtain ⟨k0, k1, k2, k3, _⟩ := cells4 HX5.out
    go_wp2_with fail
    refine (HW2.out _ HP5.out).mono ?_
    rintro e w6 ⟨rfl, hb⟩
    have HB6 := Lib.hid (bz HZl.out HB5.out hb)
    clear hb k0 k1 k2 k3
    by_cases e1 : hf % 2 = 1
    · have e1i : (hf : Int) % 2 = 1 := by omega
      by_cases e2 : j = 0
      · have e2i : (j : Int) = 0 := by omega
        by_cases e3 : kp % 2 = 1
        · have e3i : (kp : Int) % 2 = 1 := by omega
          have HSc := Lib.hid (fun W => scale_q (q := kp + 1) (z := IntKind.u64.wrap ((kp : Int) + 1)) (by have := HK53.out; rw [IntWalk.u64_in _ (by omega)]; rfl) (by have := HK53.out; omega) lw (r := nearD x.d) (by rw [show lw + 1074 = (qq : Int) by have := HQ1.out; omega, HNp.out, ← HKp.out, HNo.out, if_pos ⟨e1, .inr e3⟩]) W)
          go_wp2_with fail
          refine (HSc.out _).mono ?_
          rintro e w7 ⟨rfl, hb⟩
          have HB7 := Lib.hid (bz HZl.out HB6.out hb)
          clear hb
          go_wp2_with fail
          go_ret
          exact ⟨rfl, by rw [HZl.out]; exact HB7.out⟩
        · have e3i : (kp : Int) % 2 = 0 := by omega
          have HSc := Lib.hid (fun W => scale_q (q := kp) (z := (kp : Int)) (rfl) (by have := HK53.out; omega) lw (r := nearD x.d) (by rw [show lw + 1074 = (qq : Int) by have := HQ1.out; omega, HNp.out, ← HKp.out, HNo.out, if_neg (by rintro ⟨_, h | h⟩ <;> omega), Nat.add_zero]) W)
          go_wp2_with fail
          refine (HSc.out _).mono ?_
          rintro e w7 ⟨rfl, hb⟩
          have HB7 := Lib.hid (bz HZl.out HB6.out hb)
          clear hb
          go_wp2_with fail
          go_ret
          exact ⟨rfl, by rw [HZl.out]; exact HB7.out⟩
      · have e2i : ¬ (j : Int) = 0 := by omega
        have HSc := Lib.hid (fun W => scale_q (q := kp + 1) (z := IntKind.u64.wrap ((kp : Int) + 1)) (by have := HK53.out; rw [IntWalk.u64_in _ (by omega)]; rfl) (by have := HK53.out; omega) lw (r := nearD x.d) (by rw [show lw + 1074 = (qq : Int) by have := HQ1.out; omega, HNp.out, ← HKp.out, HNo.out, if_pos ⟨e1, .inl (by omega)⟩]) W)
        go_wp2_with fail
        refine (HSc.out _).mono ?_
        rintro e w7 ⟨rfl, hb⟩
        have HB7 := Lib.hid (bz HZl.out HB6.out hb)
        clear hb
        go_wp2_with fail
        go_ret
        exact ⟨rfl, by rw [HZl.out]; exact HB7.out⟩
    · have e1i : (hf : Int) % 2 = 0 := by omega
      have HSc := Lib.hid (fun W => scale_q (q := kp) (z := (kp : Int)) (rfl) (by have := HK53.out; omega) lw (r := nearD x.d) (by rw [show lw + 1074 = (qq : Int) by have := HQ1.out; omega, HNp.out, ← HKp.out, HNo.out, if_neg (by rintro ⟨h, _⟩; omega), Nat.add_zero]) W)
      go_wp2_with fail
      refine (HSc.out _).mono ?_
      rintro e w7 ⟨rfl, hb⟩
      have HB7 := Lib.hid (bz HZl.out HB6.out hb)
      clear hb
      go_wp2_with fail
      go_ret
      exact ⟨rfl, by rw [HZl.out]; exact HB7.out⟩
theorem pnear_pos (x : D4) (m : Nat) (w : World) (hx : x.ok w) (hm : mant x.d = (m : Int)) (h0 : m ≠ 0) (K : Nat) (hK : K ≤ 134216000) (hk : Sz K x.d) (hg : Glob w) :
    Calls Tryz.prog 24 #[x.val] w fun e w' => e = .returned (.float .f64 (nearD x.d)) ∧ Below w.heap.size w w' := by
  by_cases h1 : 1025 ≤ fin x.d
  · exact near_hi x m w hx hm h0 K hK hk hg h1
  · by_cases h2 : fin x.d ≤ -1075
    · exact near_lo x m w hx hm h0 K hK hk hg h2
    · exact near_mid x m w hx hm h0 K hK hk hg (by omega) (by omega)
theorem near_flip {d : Dyadic} (h : mant d < 0) : nearD d = negB (nearD (-d)) := by
  rw [negB_eq (near_lt _)]
  have hs := Fl.scl_le (mant d).natAbs (expo d + 1074)
  have hr : Fl.scl (mant d).natAbs (expo d + 1074) < 9223372036854775808 := by unfold Fl.INF at hs; omega
  unfold nearD
  rw [mant_neg, expo_neg, Int.natAbs_neg]
  have e1 : ng (-mant d) = false := by unfold ng; exact decide_eq_false (by omega)
  have e2 : ng (mant d) = true := by unfold ng; exact decide_eq_true h
  rw [e1, e2, Fl.sg_wd _ hr, Fl.rung_wd _ hr]
  rfl
set_option maxRecDepth 100000 in
set_option maxHeartbeats 4000000 in
theorem pnear_v {v : Value} {d : Dyadic} {w : World} (h : PV w v d) (K : Nat) (hK : K ≤ 134216000) (hk : Sz K d) (hg : Glob w) :
    Calls Tryz.prog 24 #[v] w fun e w' => e = .returned (.float .f64 (nearD d)) ∧ Below w.heap.size w w' := by
  obtain ⟨x, hx, rfl, rfl⟩ := h.d4
  rcases Int.lt_trichotomy (mant x.d) 0 with hs | hs | hs
  · have HS := Lib.hid (fun W (h : PV W x.val x.d) => psign_v h)
    have HN := Lib.hid (fun W (h : PV W x.val x.d) => pneg_v h)
    rw [Int.sign_eq_neg_one_of_neg hs] at HS
    unfold D4.val at HS HN
    have HNe := Lib.hid (fun W v (h : PV W v (-x.d)) (hg : Glob W) => show Calls Tryz.prog 24 #[v] W fun e w' => e = .returned (.float .f64 (nearD (-x.d))) ∧ Below W.heap.size W w' from by
      obtain ⟨y, hy, rfl, hyd⟩ := h.d4
      rw [← hyd]
      exact pnear_pos y (mant x.d).natAbs W hy (by rw [hyd, mant_neg]; omega) (by omega) K hK (by rw [hyd]; exact hk.neg) hg)
    rw [near_flip hs]
    have HG := Lib.hid hg
    clear hs hk hg h
    generalize nearD (-x.d) = rr at *
    have hzz : w.heap.size = w.heap.size := rfl
    have HX0 := Lib.hid (Blk.new w 37 #[.bool (ng (mant x.d)), .slice x.A x.n x.c, .bool (ng (expo x.d)), .slice x.A' x.n' x.c'])
    have HP0 := Lib.hid (hx.below (below_one (o := .cells #[.bool (ng (mant x.d)), .slice x.A x.n x.c, .bool (ng (expo x.d)), .slice x.A' x.n' x.c'] 37)))
    have HB0 := Lib.hid (show Below w.heap.size w (w.alloc (.cells #[.bool (ng (mant x.d)), .slice x.A x.n x.c, .bool (ng (expo x.d)), .slice x.A' x.n' x.c'] 37)) from below_one)
    clear hx hzz
    unfold D4.val
    go_enter Tryz.func24, Tryz.ntmps24
    obtain ⟨k0, k1, k2, k3, _⟩ := cells4 HX0.out
    go_wp2_with fail
    refine (HS.out _ HP0.out.pv).mono ?_
    rintro e w1 ⟨rfl, hb⟩
    clear k0 k1 k2 k3
    have HX1 := Lib.hid (HX0.out.below hb HX0.out.lt)
    have HP1 := Lib.hid (HP0.out.below hb)
    have HB1 := Lib.hid (below_nx HB0.out hb)
    clear hb
    obtain ⟨k0, k1, k2, k3, _⟩ := cells4 HX1.out

    go_wp2_with fail
    refine (HN.out _ HP1.out.pv).mono ?_
    rintro e w2 ⟨v, rfl, hv, hb⟩
    have HV := Lib.hid hv
    have HB2 := Lib.hid (below_nx HB1.out hb)
    clear hv hb k0 k1 k2 k3
    go_wp2_with fail
    refine (HNe.out _ _ HV.out (HG.out.below HB2.out)).mono ?_
    rintro e w3 ⟨rfl, hb⟩
    have HB3 := Lib.hid (below_nx HB2.out hb)
    clear hb
    go_wp2_with fail
    go_ret
    exact ⟨rfl, HB3.out⟩
  · have HS := Lib.hid (fun W (h : PV W x.val x.d) => psign_v h)
    rw [hs] at HS
    rw [show (0 : Int).sign = 0 from rfl] at HS
    unfold D4.val at HS
    rw [(mant_eq_zero _).1 hs, near_zero]
    clear hs hk hg h
    have hzz : w.heap.size = w.heap.size := rfl
    have HX0 := Lib.hid (Blk.new w 37 #[.bool (ng (mant x.d)), .slice x.A x.n x.c, .bool (ng (expo x.d)), .slice x.A' x.n' x.c'])
    have HP0 := Lib.hid (hx.below (below_one (o := .cells #[.bool (ng (mant x.d)), .slice x.A x.n x.c, .bool (ng (expo x.d)), .slice x.A' x.n' x.c'] 37)))
    have HB0 := Lib.hid (show Below w.heap.size w (w.alloc (.cells #[.bool (ng (mant x.d)), .slice x.A x.n x.c, .bool (ng (expo x.d)), .slice x.A' x.n' x.c'] 37)) from below_one)
    clear hx hzz
    unfold D4.val
    go_enter Tryz.func24, Tryz.ntmps24
    obtain ⟨k0, k1, k2, k3, _⟩ := cells4 HX0.out
    go_wp2_with fail
    refine (HS.out _ HP0.out.pv).mono ?_
    rintro e w1 ⟨rfl, hb⟩
    clear k0 k1 k2 k3
    have HX1 := Lib.hid (HX0.out.below hb HX0.out.lt)
    have HP1 := Lib.hid (HP0.out.below hb)
    have HB1 := Lib.hid (below_nx HB0.out hb)
    clear hb
    obtain ⟨k0, k1, k2, k3, _⟩ := cells4 HX1.out

    go_wp2_with fail

    go_ret
    exact ⟨rfl, HB1.out⟩
  · exact pnear_pos x (mant x.d).natAbs w hx (by omega) (by omega) K hK hk hg

end Go.Proofs.YtbkbeglmfhaleaaGreatDoor
/-
The document's Near. Conditions: numbers of few digits.
-/
set_option linter.unusedVariables false
set_option linter.unusedSimpArgs false
set_option linter.unnecessarySimpa false
namespace Go.Proofs.YtbkbeglmfhaleaaGreatDoor
open Go.RowKit
attribute [local go_sem ↓] Go.wp_at_zero Go.wp_at_succ

theorem run_min9 (P : Program) (ts : Array TypeId) (t : TypeId) (x y : Int) (w : World) : (Builtin.min_ ts t #[.int .i64 x, .int .i64 y]).run P w = .ok (.int .i64 (min x y)) w := by
  have e : (if y < x then y else x) = min x y := by split <;> omega
  rw [← e]
  simp [Builtin.min_, Builtin.min2]
attribute [local go_sem ↓] run_min9
theorem near_neg {b : List Nat} (neg : Bool) (e : Int) (h0 : hv b ≠ 0) : nearD (dy (sgd neg (hv b)) e) = Fl.wd neg (Fl.scl (hv b) (e + 1074)) := by
  rw [near_dy, sgd_abs]
  congr 1
  unfold ng sgd
  cases neg
  · simp
  · simp; omega
theorem hv_next {b : List Nat} (hT : Two b) {q : Nat} (h : q < b.length) : hv (b.take (q + 1)) = 2 * hv (b.take q) + b[q] := by
  rw [List.take_succ_eq_append_getElem h, hv_snoc]
theorem hv_take_lt {b : List Nat} (hT : Two b) {q : Nat} (h : q ≤ 60) : hv (b.take q) < 1152921504606846976 := by
  have h1 := hv_lt (b := b.take q) (fun x hx => hT x (List.mem_of_mem_take hx))
  have h2 : (b.take q).length ≤ 60 := by rw [List.length_take]; omega
  have h3 : 2 ^ (b.take q).length ≤ 2 ^ 60 := Nat.pow_le_pow_right (by omega) h2
  have e : (2 : Nat) ^ 60 = 1152921504606846976 := by decide
  omega
/-- One digit more. -/
theorem dig_facts {a x a' : Nat} (ha : a < 1152921504606846976) (hx : x < 2) (h : a' = 2 * a + x) : IntKind.u64.wrap ((a : Int) * 2) = (a : Int) * 2 ∧ IntKind.u64.wrap (x : Int) = (x : Int) ∧ IntKind.u64.wrap ((a : Int) * 2 + (x : Int)) = (a' : Int) := by
  refine ⟨?_, ?_, ?_⟩
  · rw [IntWalk.u64_in _ (by omega)]
  · rw [IntWalk.u64_in _ (by omega)]
  · rw [IntWalk.u64_in _ (by omega)]; omega
set_option maxRecDepth 100000 in
set_option maxHeartbeats 4000000 in
theorem rnear_any (neg : Bool) (A : Option Addr) (n c : Nat) (l : List Nat) (E : Int) (w : World) (h : Rd w A n c l) (hn : n ≤ 16777216) (hE : E.natAbs ≤ 1099511627776) :
    Calls Tryz.prog 25 #[.agg #[.bool neg, .slice A n c, .int .i64 E]] w fun e w' => e = .returned (.float .f64 (nearD (rdy neg l E))) ∧ Below w.heap.size w w' := by
  have HOd := Lib.hid (fun W (hb : Below w.heap.size w W) => rodd_any neg A n c l E W (h.below hb) hn hE)
  have HX0 := Lib.hid (Blk.new w 30 #[.bool neg, .slice A n c, .int .i64 E])
  have HB0 := Lib.hid ((Below.refl w.heap.size w).alloc (Nat.le_refl _) (.cells #[.bool neg, .slice A n c, .int .i64 E] 30))
  obtain ⟨R, hRr⟩ : ∃ R, nearD (rdy neg l E) = R := ⟨_, rfl⟩
  have HRr := Lib.hid hRr
  rw [hRr]
  clear h hn hE hRr
  go_enter Tryz.func25, Tryz.ntmps25
  obtain ⟨a0, a1, a2⟩ := cells3 HX0.out
  go_wp2_with fail
  refine (HOd.out _ HB0.out).mono ?_
  rintro e w1 ⟨B, m, d9, b, E', rfl, hR, hT, h01, hval, hE', hm, hb⟩
  have HX1 := Lib.hid (HX0.out.next hb)
  have HB1 := Lib.hid (below_nx HB0.out hb)
  have HV := Lib.hid hval
  have HT := Lib.hid hT
  have HR := Lib.hid hR
  have HE := Lib.hid hE'
  have hml := hR.1
  have HM := Lib.hid hm
  clear hR hT hval hE' hb a0 a1 a2 hm
  rcases h01 with rfl | ⟨hh, hla⟩
  · have hm0 : m = 0 := hml
    clear hml
    subst hm0
    have h2 : rdy neg l E = 0 := by
      have h0 := HV.out
      rw [show ((hv [] : Nat) : Int) = 0 from rfl, dy_zero] at h0
      have h1 := (dy_eq_zero _ _).1 h0.symm
      rw [rdy_sgd, dy_eq_zero]
      have : ofd 65536 l = 0 := by omega
      rw [this, sgd_zero]
    have hR0 := HRr.out
    rw [h2, near_zero] at hR0
    subst hR0
    clear h2
    go_wp2_with fail
    go_ret
    exact ⟨rfl, HB1.out⟩
  · have hm0 : 0 < m := by
      rw [hml]
      cases b with
      | nil => cases hh
      | cons x t => simp
    have ht : ((m : Int) == 0) = false := by simp; omega
    have hodd := hv_odd hla
    have hRv := HRr.out
    rw [rdy_sgd, ← sgd_dy HV.out, near_neg neg E' (by omega)] at hRv
    have HRv := Lib.hid hRv
    have HC := Lib.hid (fun (h : 60 < m) => near_cut (e := E') neg HT.out hh hla (by rw [← hml]; exact h))
    have HRow := Lib.hid (fun q (hq : q < b.length) => (HR.out.2.2.1).at_ (ints_get b q hq))
    have HMl := Lib.hid hml
    obtain ⟨t, ht9⟩ : ∃ t : Nat, min m 60 = t := ⟨_, rfl⟩
    have hti : min (m : Int) 60 = (t : Int) := by omega
    have HTm := Lib.hid ht9
    obtain ⟨B2, o2, hBo⟩ : ∃ b2 o2, B = some ⟨b2, o2, none⟩ := by
      obtain ⟨b2, o2, e, _⟩ := HRow.out 0 (by rw [← hml]; exact hm0)
      exact ⟨b2, o2, e⟩
    subst hBo
    clear hh hla hodd hml hRv ht9
    go_wp2_with fail
    go_loop [5, 7] (fun u i => ∃ q : Nat, q ≤ t ∧ i = .int .i64 (q : Int) ∧ u = .int .u64 ((hv (b.take q) : Nat) : Int)) (fun _ i => t - (intOf i).toNat)
    case atStart => exact ⟨0, Nat.zero_le _, rfl, rfl⟩
    case round =>
      obtain ⟨q, hq, rfl, rfl⟩ := hrel
      have htm := HTm.out
      by_cases hlt : q < t
      · have hqb : q < b.length := by rw [← HMl.out]; omega
        obtain ⟨b3, o3, e3, _, hc⟩ := HRow.out q hqb
        injection e3 with e3
        injection e3 with e3 e4
        subst e3
        subst e4
        have hx2 := HT.out _ (List.getElem_mem hqb)
        have hnx := hv_next HT.out hqb
        have hal := hv_take_lt HT.out (q := q) (by omega)
        generalize b[q] = x at *
        generalize hv (b.take q) = a at *
        generalize ha' : hv (b.take (q + 1)) = a' at *
        obtain ⟨hd1, hd2, hd3⟩ := dig_facts hal hx2 hnx
        have HA := Lib.hid ha'
        have hqm : (q : Int) < (m : Int) := by omega
        have hqt : (q : Int) < (t : Int) := by omega
        have hq1 : q + 1 ≤ 1048576 := by omega
        clear hx2 hnx hal ha' htm hqb
        go_wp2_with fail
        go_round
        case rel => exact ⟨q + 1, by omega, by go_num, by rw [HA.out]⟩
        case measure => simp [intOf]; omega
      · obtain rfl : q = t := by omega
        have hqt : ¬ (q : Int) < (q : Int) := by omega
        obtain ⟨x0, x1, x2⟩ := cells3 HX1.out
        by_cases h60 : 60 < m
        · have hq60 : q = 60 := by omega
          subst hq60
          have hal := hv_take_lt HT.out (q := 60) (by omega)
          have hcut := HC.out h60
          rw [HRv.out] at hcut
          rw [← HMl.out] at hcut
          have HMk := Lib.hid (fun W => make_any neg (2 * hv (b.take 60) + 1) (E' + (m : Int) - 60 - 1) W (by omega) (by have := HE.out; have := HM.out; omega) (by have := HE.out; have := HM.out; omega))
          rw [← hcut] at HMk
          generalize hv (b.take 60) = a at *
          obtain ⟨a', ha'⟩ : ∃ a', 2 * a + 1 = a' := ⟨_, rfl⟩
          rw [ha'] at HMk
          obtain ⟨hd1, _, hd3⟩ := dig_facts (x := 1) (a' := a') hal (by omega) ha'.symm
          rw [show ((1 : Nat) : Int) = 1 from rfl] at hd3
          have hmi : (60 : Int) < (m : Int) := by omega
          have HH := Lib.hid h60
          have HM2 := HM
          have hm9 : m ≤ 1099511627776 := by have := HM.out; omega
          have hE9 : E'.natAbs ≤ 17592186044416 + 268435456 := HE.out
          clear hal ha' hcut htm h60 hq
          go_wp2_with fail
          refine (HMk.out _).mono ?_
          rintro e w4 ⟨rfl, rfl⟩
          go_wp2_with fail
          go_ret
          exact ⟨rfl, HB1.out⟩
        · have hqm : q = m := by omega
          subst hqm
          rw [List.take_of_length_le (by rw [← HMl.out]; exact Nat.le_refl _)]
          have hal := hv_take_lt HT.out (q := q) (by omega)
          rw [List.take_of_length_le (by rw [← HMl.out]; exact Nat.le_refl _)] at hal
          have HMk := Lib.hid (fun W => make_any neg (hv b) E' W (by omega) (by have := HE.out; omega) (by have := HE.out; omega))
          rw [show mk neg (hv b) E' = R from HRv.out] at HMk
          generalize hv b = a at *
          clear hal htm
          go_wp2_with fail
          refine (HMk.out _).mono ?_
          rintro e w4 ⟨rfl, rfl⟩
          go_wp2_with fail
          go_ret
          exact ⟨rfl, HB1.out⟩

end Go.Proofs.YtbkbeglmfhaleaaGreatDoor
/-
Add and Mul of two or three numbers as values; a new box; the law's of at three floats. Conditions: as each says.
-/
set_option linter.unusedVariables false
set_option linter.unusedSimpArgs false
namespace Go.Proofs.YtbkbeglmfhaleaaGreatDoor
open Go.RowKit

theorem one_dz (a : Dyadic) : dy 1 0 * a = a := by
  rw [← dy_mant a, dy_mul, Int.one_mul, Int.zero_add]
theorem dpr_two (a b : Dyadic) : dpr [a, b] = a * b := by show dy 1 0 * a * b = a * b; rw [one_dz]
theorem dysum_two (a b : Dyadic) : dysum [a, b] = a + b := by show a + (b + 0) = a + b; rw [add_dz]
theorem dysum_three (a b c : Dyadic) : dysum [a, b, c] = a + (b + c) := by show a + (b + (c + 0)) = a + (b + c); rw [add_dz]
theorem dadd_rev (a b c : Dyadic) : c + (b + a) = a + (b + c) := by
  rw [← Dyadic.toRat_inj]; simp only [Dyadic.toRat_add]; grind
theorem dmul_rev (a b : Dyadic) : b * a = a * b := by
  rw [← Dyadic.toRat_inj]; simp only [Dyadic.toRat_mul]; grind
theorem dmul_add9 (a b c : Dyadic) : a * b + a * c = a * (b + c) := by
  rw [← Dyadic.toRat_inj]; simp only [Dyadic.toRat_mul, Dyadic.toRat_add]; grind
theorem dadd_neg (a : Dyadic) : a + -a = 0 := by
  rw [← Dyadic.toRat_inj]; simp only [Dyadic.toRat_add, Dyadic.toRat_neg, Dyadic.toRat_zero]; grind
theorem RetP.eq {d d' : Dyadic} {w : World} {f : FuncId} {args : Array Value} (h : Calls Tryz.prog f args w (RetP d w)) (e : d = d') : Calls Tryz.prog f args w (RetP d' w) := e ▸ h
theorem sz_two {K : Nat} {a b : Dyadic} (ha : Sz K a) (hb : Sz K b) : ∀ d ∈ [a, b], Sz K d := by
  intro d hd
  simp only [List.mem_cons, List.not_mem_nil, or_false] at hd
  rcases hd with rfl | rfl
  · exact ha
  · exact hb
theorem sz_three9 {K : Nat} {a b c : Dyadic} (ha : Sz K a) (hb : Sz K b) (hc : Sz K c) : ∀ d ∈ [a, b, c], Sz K d := by
  intro d hd
  simp only [List.mem_cons, List.not_mem_nil, or_false] at hd
  rcases hd with rfl | rfl | rfl
  · exact ha
  · exact hb
  · exact hc
theorem LP.add2 {W : World} {v : Value} {a b : Dyadic} (h : LP W v [a, b]) (K : Nat) (hK : K ≤ 134216000) (ha : Sz K a) (hb : Sz K b) (hg : Glob W) : Calls Tryz.prog 19 #[v] W (RetP (a + b) W) :=
  RetP.eq (h.add K (by simp) hK (sz_two ha hb) hg) (dysum_two a b)
theorem LP.add3 {W : World} {v : Value} {a b c : Dyadic} (h : LP W v [a, b, c]) (K : Nat) (hK : K ≤ 134216000) (ha : Sz K a) (hb : Sz K b) (hc : Sz K c) (hg : Glob W) : Calls Tryz.prog 19 #[v] W (RetP (a + (b + c)) W) :=
  RetP.eq (h.add K (by simp) hK (sz_three9 ha hb hc) hg) (dysum_three a b c)
theorem LP.mul2 {W : World} {v : Value} {a b : Dyadic} (h : LP W v [a, b]) (K : Nat) (hK : K ≤ 10000000) (ha : Sz K a) (hb : Sz K b) (hg : Glob W) : Calls Tryz.prog 20 #[v] W (RetP (a * b) W) :=
  RetP.eq (h.mul K (by simp) (sz_two ha hb) hK hg) (dpr_two a b)
theorem pcmp_same {v v' : Value} {d : Dyadic} {w : World} (h : PV w v d) (h' : PV w v' d) (K : Nat) (hK : K ≤ 134216000) (hk : Sz K d) (hg : Glob w) :
    Calls Tryz.prog 28 #[v, v'] w fun e w' => e = .returned (.int .i64 0) ∧ Below w.heap.size w w' := by
  have := pcmp_v h h' K hK hk hk hg
  rw [dadd_neg, mant_zero] at this
  exact this
theorem rnear_v {v : Value} {d : Dyadic} {w : World} {k : Nat} (h : DV w v d) (hs : Sz k d) (hk : k ≤ 8388600) :
    Calls Tryz.prog 25 #[v] w fun e w' => e = .returned (.float .f64 (nearD d)) ∧ Below w.heap.size w w' := by
  obtain ⟨neg, A, n, c, E, l, rfl, h2, h3, rfl, h5, h6⟩ := h.parts (hs.fit (by omega))
  refine rnear_any neg A n c l E w h2 ?_ (by omega)
  obtain ⟨m, hm, hb⟩ := hs
  obtain ⟨r, hr⟩ : ∃ r : Nat, (r : Int) = (-(k : Int)) % 16 := ⟨((-(k : Int)) % 16).toNat, by omega⟩
  have e : rdy neg l E = dy (m * 2 ^ r) (16 * ((-(k : Int)) / 16)) := by rw [hm, dy_pow]; congr 1; omega
  have hb2 : (m * 2 ^ r).natAbs < 65536 ^ (2 * k + 1) := by
    rw [Int.natAbs_mul, Int.natAbs_pow, pow16]
    have h1 : 2 ^ r ≤ 2 ^ 16 := Nat.pow_le_pow_right (by omega) (by omega)
    have h2 : m.natAbs * 2 ^ r < 2 ^ (2 * k) * 2 ^ 16 := Nat.mul_lt_mul_of_lt_of_le hb h1 (Nat.pow_pos (by omega))
    rw [← Nat.pow_add] at h2
    exact Nat.lt_of_lt_of_le h2 (Nat.pow_le_pow_right (by omega) (by omega))
  rw [h2.1]
  rcases neat_in h3 h2.2.2.2.1 e hb2 with h7 | ⟨h7, h8⟩
  · subst h7; simp
  · omega
theorem PBx.eq {W : World} {g : Nat} {d d' : Dyadic} (h : PBx W g d) (e : d = d') : PBx W g d' := e ▸ h
/-- A new box of the program's, of the document's. -/
def NBp (lo : Nat) (W : World) (v : Value) : Prop := ∃ g, v = .pointer (some ⟨g, 0, none⟩) ∧ lo ≤ g ∧ Blk W g 37 #[.bool false, .slice none 0 0, .bool false, .slice none 0 0]
def NBr (lo : Nat) (W : World) (v : Value) : Prop := ∃ g, v = .pointer (some ⟨g, 0, none⟩) ∧ lo ≤ g ∧ Blk W g 30 #[.bool false, .slice none 0 0, .int .i64 0]
theorem mono_nbp (lo : Nat) : Mono fun v W => NBp lo W v := fun _ _ _ h hb => by
  obtain ⟨g, h1, h2, h3⟩ := h
  exact ⟨g, h1, h2, h3.below hb h3.lt⟩
theorem mono_nbr (lo : Nat) : Mono fun v W => NBr lo W v := fun _ _ _ h hb => by
  obtain ⟨g, h1, h2, h3⟩ := h
  exact ⟨g, h1, h2, h3.below hb h3.lt⟩
theorem NBp.new {lo : Nat} (W : World) (h : lo ≤ W.heap.size) : NBp lo (W.alloc (.cells #[.bool false, .slice none 0 0, .bool false, .slice none 0 0] 37)) (.pointer (some ⟨W.heap.size, 0, none⟩)) := ⟨_, rfl, h, Blk.new W _ _⟩
theorem NBr.new {lo : Nat} (W : World) (h : lo ≤ W.heap.size) : NBr lo (W.alloc (.cells #[.bool false, .slice none 0 0, .int .i64 0] 30)) (.pointer (some ⟨W.heap.size, 0, none⟩)) := ⟨_, rfl, h, Blk.new W _ _⟩
theorem Wh.store3r {w : World} {A : Option Addr} {n c : Nat} {z : Int} (h : Wh w A n c z) {g : Nat} {t : TypeId} {a : Bool} {A' : Option Addr} {n' c' : Nat} {E : Int} (hB : Blk w g t #[.bool a, .slice A' n' c', .int .i64 E]) (u v x : Value) :
    Wh (((w.setCell ⟨g, 0, none⟩ u).setCell ⟨g, 1, none⟩ v).setCell ⟨g, 2, none⟩ x) A n c z := by
  refine ⟨h.1, h.2.1, ?_⟩
  rcases h.2.2 with h0 | ⟨b, o, e, hc⟩
  · exact .inl h0
  · by_cases h0 : u64s (dig z) = []
    · exact .inl h0
    · have hne : b ≠ g := fun hbg => by
        subst hbg
        obtain ⟨y, hy⟩ : ∃ y, (u64s (dig z))[0]? = some y := ⟨(u64s (dig z))[0]'(List.length_pos_iff.2 h0), List.getElem?_eq_getElem _⟩
        obtain ⟨d, _, hd⟩ := List.mem_map.1 (List.mem_of_getElem? hy)
        have h1 := hc 0 y hy
        rw [Nat.add_zero, hB.cell o, ← hd] at h1
        match o, h1 with
        | 0, h1 => simp at h1
        | 1, h1 => simp at h1
        | 2, h1 => simp at h1
        | o + 3, h1 => simp at h1
      exact .inr ⟨b, o, e, fun i v hi => by rw [cell_set hne, cell_set hne, cell_set hne]; exact hc i v hi⟩
theorem blk_ne {w : World} {g g' : Nat} {t t' : TypeId} {cs cs' : Array Value} (h : Blk w g t cs) (h' : Blk w g' t' cs') (ht : t ≠ t') : g ≠ g' := fun e => by
  subst e
  unfold Blk at h h'
  rw [h] at h'
  injection h' with h'
  injection h' with _ e1 _
  exact ht e1
/-- The program's box keeps through a store into the document's. -/
theorem PBx.store3r {w : World} {g p : Nat} {d : Dyadic} (h : PBx w g d) {a : Bool} {A' : Option Addr} {n' c' : Nat} {E : Int} (hB : Blk w p 30 #[.bool a, .slice A' n' c', .int .i64 E]) (u v x : Value) :
    PBx (((w.setCell ⟨p, 0, none⟩ u).setCell ⟨p, 1, none⟩ v).setCell ⟨p, 2, none⟩ x) g d := by
  obtain ⟨q, h1, h2, h3⟩ := h
  have hne : g ≠ p := blk_ne h3 hB (by decide)
  exact ⟨q, h1, ⟨h2.1.store3r hB u v x, h2.2.store3r hB u v x⟩, ((h3.other (p := ⟨p, 0, none⟩) hne u).other (p := ⟨p, 1, none⟩) hne v).other (p := ⟨p, 2, none⟩) hne x⟩
theorem DV.store4 {w : World} {v : Value} {d : Dyadic} (h : DV w v d) {g : Nat} {u0 u1 u2 u3 : Value} (hB : Blk w g 37 #[u0, u1, u2, u3]) (x0 x1 x2 x3 : Value) :
    DV ((((w.setCell ⟨g, 0, none⟩ x0).setCell ⟨g, 1, none⟩ x1).setCell ⟨g, 2, none⟩ x2).setCell ⟨g, 3, none⟩ x3) v d :=
  (((h.far hB (by decide) 0 x0).far (hB.set_ 0 x0) (by decide) 1 x1).far ((hB.set_ 0 x0).set_ 1 x1) (by decide) 2 x2).far (((hB.set_ 0 x0).set_ 1 x1).set_ 2 x2) (by decide) 3 x3
theorem NBr.store4 {lo : Nat} {w : World} {v : Value} (h : NBr lo w v) {g : Nat} {u0 u1 u2 u3 : Value} (hB : Blk w g 37 #[u0, u1, u2, u3]) (x0 x1 x2 x3 : Value) :
    NBr lo ((((w.setCell ⟨g, 0, none⟩ x0).setCell ⟨g, 1, none⟩ x1).setCell ⟨g, 2, none⟩ x2).setCell ⟨g, 3, none⟩ x3) v := by
  obtain ⟨p, h1, h2, h3⟩ := h
  have hne : p ≠ g := (blk_ne hB h3 (by decide)).symm
  exact ⟨p, h1, h2, (((h3.other (p := ⟨g, 0, none⟩) hne x0).other (p := ⟨g, 1, none⟩) hne x1).other (p := ⟨g, 2, none⟩) hne x2).other (p := ⟨g, 3, none⟩) hne x3⟩
theorem kind_two9 (x : Nat) : (kindOf x == 2) = Fl.nan x := by
  unfold kindOf Fl.nan
  rw [Bool.eq_iff_iff, beq_iff_eq, decide_eq_true_eq]
  split
  · omega
  · split <;> omega
/-- The document's Same, at one number twice. -/
theorem rsame_self (a : Nat) (w : World) (ha : a < 18446744073709551616) :
    Calls Tryz.prog 23 #[.float .f64 a, .float .f64 a] w fun e w' => e = .returned (.bool true) ∧ w = w' := by
  have ka := kind_two9 a
  have h1 : ((a : Int) == (a : Int)) = true := by simp
  go_enter Tryz.func23, Tryz.ntmps23
  go_wp2_with fail
  refine (parts_any a _ ha).mono ?_
  rintro e w' ⟨rfl, rfl⟩
  go_wp2_with fail
  refine (parts_any a _ ha).mono ?_
  rintro e w' ⟨rfl, rfl⟩
  go_wp2
  go_ret
  exact ⟨rfl, rfl⟩
/-- The law's of at a new list of three floats. -/
theorem of_three (b0 b1 b2 g : Nat) (w : World) (hB : Blk w g 44 #[.float .f64 b0, .float .f64 b1, .float .f64 b2]) (h0 : b0 < 18446744073709551616) (h1 : b1 < 18446744073709551616) (h2 : b2 < 18446744073709551616) (hg : Glob w) :
    Calls Tryz.prog 7 #[.slice (some ⟨g, 0, none⟩) 3 3] w (OfR [b0, b1, b2] w) := by
  refine of_law (some ⟨g, 0, none⟩) 3 3 [b0, b1, b2] w (.inr ⟨g, 0, rfl, fun i v hi => ?_⟩) ?_ rfl (by omega) (by omega) hg
  · rw [Nat.zero_add, hB.cell i]
    have : f64s [b0, b1, b2] = [.float .f64 b0, .float .f64 b1, .float .f64 b2] := rfl
    rw [this] at hi
    simpa using hi
  · intro b hb
    simp only [List.mem_cons, List.not_mem_nil, or_false] at hb
    rcases hb with rfl | rfl | rfl <;> assumption
/-- All three are finite, or fewer than three numbers are left. -/
theorem fins_three (b0 b1 b2 : Nat) : (fins [b0, b1, b2]).length < 3 ∨ (fins [b0, b1, b2] = [fdy b0, fdy b1, fdy b2] ∧ Fl.rung b0 < Fl.INF ∧ Fl.rung b1 < Fl.INF ∧ Fl.rung b2 < Fl.INF) := by
  cases h0 : Fl.fin b0
  · left; have := List.length_filter_le Fl.fin [b1, b2]; unfold fins; rw [List.filter_cons_of_neg (by simp [h0]), List.length_map]; simp only [List.length_cons, List.length_nil] at this; omega
  · cases h1 : Fl.fin b1
    · left; have := List.length_filter_le Fl.fin [b2]; unfold fins; rw [List.filter_cons_of_pos (by simp [h0]), List.filter_cons_of_neg (by simp [h1]), List.length_map]; simp only [List.length_cons, List.length_nil] at this ⊢; omega
    · cases h2 : Fl.fin b2
      · left; unfold fins; rw [List.filter_cons_of_pos (by simp [h0]), List.filter_cons_of_pos (by simp [h1]), List.filter_cons_of_neg (by simp [h2])]; simp
      · right
        refine ⟨?_, fin_inf h0, fin_inf h1, fin_inf h2⟩
        unfold fins
        rw [List.filter_cons_of_pos (by simp [h0]), List.filter_cons_of_pos (by simp [h1]), List.filter_cons_of_pos (by simp [h2])]
        rfl
end Go.Proofs.YtbkbeglmfhaleaaGreatDoor
/-
A region of one fact an operation that ends in two stores, the first of which doesn't wait for the last operation before them. Conditions: as it says.
-/
set_option linter.unusedVariables false
namespace Go.Proofs.YtbkbeglmfhaleaaGreatDoor
open Go.RowKit

def waitsAt (ops : List Oper) (i : Nat) : List Nat := match ops[i]? with | some o => waits o | none => []
/-- All that stands done once these are: one pass from the last to the first. -/
def pass (ops : List Oper) (R : List Nat) : Nat → List Nat
  | 0 => R
  | i + 1 => pass ops (if R.contains i then R ++ waitsAt ops i else R) i
def Closed (ops : List Oper) (d : Nat → Bool) : Prop := ∀ i o, ops[i]? = some o → d i = true → ∀ j ∈ waits o, d j = true
theorem pass_done {ops : List Oper} {d : Nat → Bool} (hc : Closed ops d) : ∀ (i : Nat) (R : List Nat), (∀ j ∈ R, d j = true) → ∀ j ∈ pass ops R i, d j = true
  | 0, R, h, j, hj => h j hj
  | i + 1, R, h, j, hj => by
    refine pass_done hc i _ (fun q hq => ?_) j hj
    split at hq
    · rename_i hi
      rcases List.mem_append.1 hq with h9 | h9
      · exact h q h9
      · unfold waitsAt at h9
        cases ho : ops[i]? with
        | none => rw [ho] at h9; cases h9
        | some o =>
          rw [ho] at h9
          exact hc i o ho (h i (by simpa using hi)) q h9
    · exact h q hq
theorem waits_done {o : Oper} {d : Nat → Bool} (hdep : ∀ e ∈ o.after.toList, Region.binds .any e = true → d e.on = true) : ∀ j ∈ waits o, d j = true := fun j hj => by
  obtain ⟨e, he, rfl⟩ := List.mem_map.1 hj
  obtain ⟨he1, he2⟩ := List.mem_filter.1 he
  exact hdep e he1 he2
theorem closed_did {ops : List Oper} {d : Nat → Bool} {i : Nat} {o : Oper} (hc : Closed ops d) (ho : ops[i]? = some o) (hw : ∀ j ∈ waits o, d j = true) : Closed ops (did d i) := fun i' o' ho' hd' j hj => by
  have hup : ∀ q, d q = true → did d i q = true := fun q hq => by
    by_cases e : q = i
    · rw [e]; simp [did]
    · rw [did_ne d e]; exact hq
  by_cases e : i' = i
  · subst e
    rw [ho] at ho'
    injection ho' with ho'
    subst ho'
    exact hup j (hw j hj)
  · rw [did_ne d e] at hd'
    exact hup j (hc i' o' ho' hd' j hj)
/-- What holds whichever have come up; x: the operation that the first store doesn't wait for. -/
def Fam2 (ops : List Oper) (fs : List Fact) (L : List Nat) (w0 : World) (x : Nat) (T0 T1 : (Nat → Value) → World → Prop) (d : Nat → Bool) (s : Nat → Value) (W : World) : Prop :=
  Closed ops d ∧ (d L.length = false → FamJ fs L w0 d s W) ∧ (d L.length = true → d (L.length + 1) = false → T0 s W ∧ (d x = true → factAt fs x (s (L.getD x 0)) W)) ∧ (d (L.length + 1) = true → T1 s W)
/-- What the first store waits for, what the second does. -/
def ends2 (ops : List Oper) (n x : Nat) : Bool :=
  (List.range n).all (fun j => j == x || (pass ops (waitsAt ops n) n).contains j) && (List.range (n + 1)).all (fun j => (pass ops (waitsAt ops (n + 1)) (n + 1)).contains j)
theorem head2_steps {P : Program} {ops : Array Oper} {t0 : Array Value} {L : List Nat} {fs : List Fact} {w0 : World} {x : Nat} {T0 T1 : (Nat → Value) → World → Prop} (hn : L.Nodup) (hm : Monos fs) (hx : x < L.length) (he : ends2 ops.toList L.length x = true) (hsz : ops.toList.length = L.length + 2)
    (hX : ∀ o s W, ops.toList[x]? = some o → T0 s W → (∀ k, k ∉ L → s k = t0.getD k undef) → StepG P ops o s W (fun v W' => T0 (sput s o.dst v) W' ∧ factAt fs x v W')) : ∀ {i : Nat} {os : List Oper}, AllFam P ops t0 L fs w0 i os → famB L i os = true →
    (∀ (j : Nat) (o : Oper), os[j]? = some o → ∀ e ∈ o.after.toList, Region.binds .any e = true → e.on < i + j) → (∀ (j : Nat) (o : Oper), os[j]? = some o → ops.toList[i + j]? = some o) → AllStepsG P ops t0 L (Fam2 ops.toList fs L w0 x T0 T1) i os
  | i, [], _, _, _, _ => trivial
  | i, o :: r, h, hb, hon, hat => by
    simp only [famB, Bool.and_eq_true, beq_iff_eq, decide_eq_true_eq] at hb
    obtain ⟨⟨hdst, hlt⟩, hbr⟩ := hb
    refine ⟨fun d s W hJ hfr hd hdep => ?_, head2_steps hn hm hx he hsz hX h.2 hbr (fun j o' ho e he hbd => by
      have := hon (j + 1) o' (by simpa using ho) e he hbd
      omega) (fun j o' ho => by have := hat (j + 1) o' (by simpa using ho); rw [show i + 1 + j = i + (j + 1) by omega]; exact this)⟩
    have ho0 : ops.toList[i]? = some o := by have := hat 0 o rfl; simpa using this
    obtain ⟨hJ1, hJ2, hJ3, hJ4⟩ := hJ
    have hw := waits_done hdep
    have hcl := closed_did hJ1 ho0 hw
    unfold ends2 at he
    simp only [Bool.and_eq_true, List.all_eq_true, List.mem_range, Bool.or_eq_true, beq_iff_eq] at he
    have hn1 : d (L.length + 1) = false := by
      cases hq : d (L.length + 1)
      · rfl
      · exfalso
        obtain ⟨o1, ho1⟩ : ∃ o1, ops.toList[L.length + 1]? = some o1 := ⟨_, List.getElem?_eq_getElem (by omega)⟩
        have hR := pass_done hJ1 (L.length + 1) (waitsAt ops.toList (L.length + 1)) (fun j hj => by unfold waitsAt at hj; rw [ho1] at hj; exact hJ1 _ _ ho1 hq j hj) i (by have := he.2 i (by omega); simpa using this)
        rw [hd] at hR
        cases hR
    have hself : did d i i = true := by simp [did]
    by_cases hix : i = x
    · cases hq : d L.length
      · have hJ := hJ2 hq
        refine stepG_mono (h.1 s W hJ.2 hfr fun j hj => hJ.1 j ?_ (hw j (by simpa using hj))) fun v W' hv => ⟨hcl, fun _ => ⟨fun j hjl hjd => ?_, hJ.2.trans (hv.2.mono hJ.2.size)⟩, fun h9 => ?_, fun h9 => ?_⟩
        · have hj2 : j ∈ waits o := by simpa using hj
          obtain ⟨e, he1, rfl⟩ := List.mem_map.1 hj2
          obtain ⟨he2, he3⟩ := List.mem_filter.1 he1
          have := hon 0 o rfl e he2 he3
          omega
        · by_cases e : j = i
          · subst e
            rw [hdst]
            have : sput s (some (L.getD j 0)) v (L.getD j 0) = v := by simp [sput]
            rw [this]
            exact hv.1
          · have hdj : d j = true := by rw [did_ne d e] at hjd; exact hjd
            have : sput s o.dst v (L.getD j 0) = s (L.getD j 0) := by
              rw [hdst]
              unfold sput
              rw [if_neg]
              intro e9
              injection e9 with e9
              exact e (getD_inj hn hjl hlt e9.symm)
            rw [this]
            exact hm.at_ j _ _ _ (hJ.1 j hjl hdj) hv.2
        · rw [did_ne d (by omega : L.length ≠ i), hq] at h9; cases h9
        · rw [did_ne d (by omega : L.length + 1 ≠ i), hn1] at h9; cases h9
      · subst hix
        obtain ⟨hT, _⟩ := hJ3 hq hn1
        refine stepG_mono (hX o s W ho0 hT hfr) fun v W' hv => ⟨hcl, fun h9 => ?_, fun _ _ => ⟨hv.1, fun _ => ?_⟩, fun h9 => ?_⟩
        · rw [did_ne d (by omega : L.length ≠ i), hq] at h9; cases h9
        · rw [hdst]
          have : sput s (some (L.getD i 0)) v (L.getD i 0) = v := by simp [sput]
          rw [this]
          exact hv.2
        · rw [did_ne d (by omega : L.length + 1 ≠ i), hn1] at h9; cases h9
    · have hq : d L.length = false := by
        cases hq : d L.length
        · rfl
        · exfalso
          obtain ⟨o1, ho1⟩ : ∃ o1, ops.toList[L.length]? = some o1 := ⟨_, List.getElem?_eq_getElem (by omega)⟩
          have hR := pass_done hJ1 L.length (waitsAt ops.toList L.length) (fun j hj => by unfold waitsAt at hj; rw [ho1] at hj; exact hJ1 _ _ ho1 hq j hj) i (by
            have := he.1 i hlt
            rcases this with h9 | h9
            · exact absurd h9 hix
            · simpa using h9)
          rw [hd] at hR
          cases hR
      have hJ := hJ2 hq
      refine stepG_mono (h.1 s W hJ.2 hfr fun j hj => hJ.1 j ?_ (hw j (by simpa using hj))) fun v W' hv => ⟨hcl, fun _ => ⟨fun j hjl hjd => ?_, hJ.2.trans (hv.2.mono hJ.2.size)⟩, fun h9 => ?_, fun h9 => ?_⟩
      · have hj2 : j ∈ waits o := by simpa using hj
        obtain ⟨e, he1, rfl⟩ := List.mem_map.1 hj2
        obtain ⟨he2, he3⟩ := List.mem_filter.1 he1
        have := hon 0 o rfl e he2 he3
        omega
      · by_cases e : j = i
        · subst e
          rw [hdst]
          have : sput s (some (L.getD j 0)) v (L.getD j 0) = v := by simp [sput]
          rw [this]
          exact hv.1
        · have hdj : d j = true := by rw [did_ne d e] at hjd; exact hjd
          have : sput s o.dst v (L.getD j 0) = s (L.getD j 0) := by
            rw [hdst]
            unfold sput
            rw [if_neg]
            intro e9
            injection e9 with e9
            exact e (getD_inj hn hjl hlt e9.symm)
          rw [this]
          exact hm.at_ j _ _ _ (hJ.1 j hjl hdj) hv.2
      · rw [did_ne d (by omega : L.length ≠ i), hq] at h9; cases h9
      · rw [did_ne d (by omega : L.length + 1 ≠ i), hn1] at h9; cases h9
/-- THE RULE. -/
theorem wp_region_fam2 {P : Program} {ops : Array Oper} {Q : Exit → Act → World → Prop} {id : Nat} {t0 : Array Value} {df : List Deferred} {w : World} (L : List Nat) (fs : List Fact) (x : Nat) (T0 T1 : (Nat → Value) → World → Prop) (os : List Oper) (o0 o1 : Oper) (hm : P.follows .mixedOrders = true) (hops : ops.toList = os ++ [o0, o1]) (hp : plainG L t0.size 0 ops.toList = true) (hb : famB L 0 os = true) (hn : L.Nodup) (hx : x < L.length) (he : ends2 ops.toList L.length x = true) (hd0 : o0.dst = none) (hd1 : o1.dst = none) (hmo : Monos fs)
    (hs : AllFam P ops t0 L fs w 0 os)
    (hX : ∀ o s W, ops.toList[x]? = some o → T0 s W → (∀ k, k ∉ L → s k = t0.getD k undef) → StepG P ops o s W (fun v W' => T0 (sput s o.dst v) W' ∧ factAt fs x v W'))
    (h0 : ∀ s W, (∀ j, j < L.length → j ≠ x → factAt fs j (s (L.getD j 0)) W) → Below w.heap.size w W → (∀ k, k ∉ L → s k = t0.getD k undef) → StepG P ops o0 s W (fun _ W' => T0 s W' ∧ (factAt fs x (s (L.getD x 0)) W → factAt fs x (s (L.getD x 0)) W')))
    (h1 : ∀ s W, T0 s W → factAt fs x (s (L.getD x 0)) W → (∀ k, k ∉ L → s k = t0.getD k undef) → StepG P ops o1 s W (fun _ W' => T1 s W'))
    (done : ∀ s w', T1 s w' → Q .normal ⟨setAll t0 s L, df⟩ w') : (Code.region id ops true).wp P Q ⟨t0, df⟩ w := by
  have hl := famB_len hb
  have hsz : ops.toList.length = L.length + 2 := by rw [hops, List.length_append]; simp only [List.length_cons, List.length_nil]; omega
  have hz : ops.size = L.length + 2 := by rw [← hsz]; simp
  have ho0 : ops.toList[L.length]? = some o0 := by rw [hops, List.getElem?_append_right (by omega), show L.length - os.length = 0 by omega]; rfl
  have ho1 : ops.toList[L.length + 1]? = some o1 := by rw [hops, List.getElem?_append_right (by omega), show L.length + 1 - os.length = 1 by omega]; rfl
  have he' := he
  unfold ends2 at he'
  simp only [Bool.and_eq_true, List.all_eq_true, List.mem_range, Bool.or_eq_true, beq_iff_eq] at he'
  have hnone : ∀ (s : Nat → Value) v, sput s none v = s := fun s v => by funext q; simp [sput]
  refine wp_region_invG L (Fam2 ops.toList fs L w x T0 T1) hm hp ⟨(fun i o _ h => by cases h), (fun _ => ⟨(fun j _ h => by cases h), (Below.refl _ _).drew⟩), (fun h => by cases h), (fun h => by cases h)⟩ ?_ fun d s w' hJ hd => done s w' (hJ.2.2.2 (hd _ (by omega)))
  refine Eq.mpr (congrArg (fun l => AllStepsG P ops t0 L (Fam2 ops.toList fs L w x T0 T1) 0 l) hops) ?_
  show AllStepsG P ops t0 L (Fam2 ops.toList fs L w x T0 T1) 0 (os ++ [o0, o1])
  refine allStepsG_append (head2_steps hn hmo hx he hsz hX hs hb (fun j o ho e he9 hbd => ?_) (fun j o ho => ?_)) ⟨fun d s W hJ hfr hd hdep => ?_, fun d s W hJ hfr hd hdep => ?_, trivial⟩
  · refine (plainG_at hp (j := j) (o := o) ?_).1 e (by simpa using he9) hbd
    rw [hops, List.getElem?_append_left ((List.getElem?_eq_some_iff.1 ho).1)]
    exact ho
  · rw [Nat.zero_add, hops, List.getElem?_append_left ((List.getElem?_eq_some_iff.1 ho).1)]
    exact ho
  · rw [show 0 + os.length = L.length by omega] at hd ⊢
    obtain ⟨hJ1, hJ2, hJ3, hJ4⟩ := hJ
    have hw := waits_done hdep
    have hR := pass_done hJ1 L.length (waitsAt ops.toList L.length) (fun j hj => by unfold waitsAt at hj; rw [ho0] at hj; exact hw j hj)
    have hJ := hJ2 hd
    refine stepG_mono (h0 s W (fun j hj hjx => hJ.1 j hj (hR j (by
      rcases he'.1 j hj with h9 | h9
      · exact absurd h9 hjx
      · simpa using h9))) hJ.2 hfr) fun v W' hv => ?_
    rw [hd0, hnone]
    have hn1 : d (L.length + 1) = false := by
      cases hq : d (L.length + 1)
      · rfl
      · exfalso
        have hR2 := pass_done hJ1 (L.length + 1) (waitsAt ops.toList (L.length + 1)) (fun j hj => by unfold waitsAt at hj; rw [ho1] at hj; exact hJ1 _ _ ho1 hq j hj) L.length (by have := he'.2 L.length (by omega); simpa using this)
        rw [hd] at hR2
        cases hR2
    refine ⟨closed_did hJ1 ho0 hw, fun h9 => ?_, fun _ _ => ⟨hv.1, fun h9 => hv.2 ?_⟩, fun h9 => ?_⟩
    · simp [did] at h9
    · rw [did_ne d (by omega : x ≠ L.length)] at h9
      exact hJ.1 x hx h9
    · rw [did_ne d (by omega : L.length + 1 ≠ L.length), hn1] at h9; cases h9
  · rw [show 0 + os.length + 1 = L.length + 1 by omega] at hd ⊢
    obtain ⟨hJ1, hJ2, hJ3, hJ4⟩ := hJ
    have hw := waits_done hdep
    have hR := pass_done hJ1 (L.length + 1) (waitsAt ops.toList (L.length + 1)) (fun j hj => by unfold waitsAt at hj; rw [ho1] at hj; exact hw j hj)
    have hdn : d L.length = true := hR _ (by have := he'.2 L.length (by omega); simpa using this)
    have hdx : d x = true := hR _ (by have := he'.2 x (by omega); simpa using this)
    obtain ⟨hT, hF⟩ := hJ3 hdn hd
    refine stepG_mono (h1 s W hT (hF hdx) hfr) fun v W' hv => ?_
    rw [hd1, hnone]
    refine ⟨closed_did hJ1 ho1 hw, fun h9 => ?_, fun _ h9 => ?_, fun _ => hv⟩
    · rw [did_ne d (by omega : L.length ≠ L.length + 1), hdn] at h9; cases h9
    · simp [did] at h9
theorem split_two {α : Type} (n : Nat) (l : List α) {a b : α} (h : l.drop n = [a, b]) : l = l.take n ++ [a, b] := by
  rw [← h]; exact (List.take_append_drop n l).symm
end Go.Proofs.YtbkbeglmfhaleaaGreatDoor
/-
DyadNear, walked. Conditions: the library's tables are as its text lays them.
-/
set_option linter.unusedVariables false
set_option linter.unusedSimpArgs false
set_option linter.unnecessarySimpa false
namespace Go.Proofs.YtbkbeglmfhaleaaGreatDoor
open Go.RowKit
attribute [local go_sem ↓] Go.wp_at_zero Go.wp_at_succ

set_option maxRecDepth 100000 in
set_option maxHeartbeats 4000000 in
theorem dyadNear_walk (b0 b1 b2 : Nat) (k : Int) (w : World) (hb0 : b0 < 18446744073709551616) (hb1 : b1 < 18446744073709551616) (hb2 : b2 < 18446744073709551616) (hz3 : I64 k) (hg : Glob w) :
    Calls Tryz.prog 4 #[.float .f64 b0, .float .f64 b1, .float .f64 b2, .int .i64 k] w fun e w' => e = .returned (.bool true) ∧ Below w.heap.size w w' := by
  have HOf := Lib.hid (fun W g (hB : Blk W g 44 #[.float .f64 b0, .float .f64 b1, .float .f64 b2]) (hg : Glob W) => of_three b0 b1 b2 g W hB hb0 hb1 hb2 hg)
  have HG := Lib.hid hg
  have HAw := Lib.hid (fun W (hb : Below w.heap.size w W) => awakeD_any W (hg.below hb))
  have HN0 := Lib.hid hb0
  clear hg hb0 hb1 hb2
  go_enter Tryz.func4, Tryz.ntmps4
  go_wp2_with fail
  refine (HAw.out _ (Below.refl _ _)).mono ?_
  rintro e w1 ⟨rfl, hb⟩
  have HB := Lib.hid (below_al hb (o := .cells #[.float .f64 b0, .float .f64 b1, .float .f64 b2] 44))
  have HBk := Lib.hid (Blk.new w1 44 #[.float .f64 b0, .float .f64 b1, .float .f64 b2])
  clear hb
  go_wp2_with fail
  refine (HOf.out _ _ HBk.out (HG.out.below HB.out)).mono ?_
  rintro e w2 h
  obtain ⟨va, vb, rfl, hva, hvb, ⟨A2, c2, rfl⟩, ⟨A1, c1, rfl⟩, hb⟩ := h.lists
  have HB2 := Lib.hid (below_nx HB.out hb)
  clear h hb
  rcases fins_three b0 b1 b2 with h3 | ⟨h3, hf0, hf1, hf2⟩
  · obtain ⟨m, hm⟩ : ∃ m, (fins [b0, b1, b2]).length = m := ⟨_, rfl⟩
    rw [hm] at h3
    rw [hm]
    have hm3 : (m : Int) < 3 := by omega
    clear hva hvb hm
    go_wp2_with fail
    refine (HAw.out _ HB2.out).mono ?_
    rintro e w3 ⟨rfl, hb⟩
    have HB3 := Lib.hid (below_nx HB2.out hb)
    clear hb
    go_wp2_with fail
    go_ret
    exact ⟨rfl, HB3.out⟩
  · rw [h3] at hva hvb
    rw [h3]
    clear h3
    rw [show [fdy b0, fdy b1, fdy b2].length = 3 from rfl]
    by_cases hk1 : 3000 < k
    · clear hva hvb
      go_wp2_with fail
      refine (HAw.out _ HB2.out).mono ?_
      rintro e w3 ⟨rfl, hb⟩
      have HB3 := Lib.hid (below_nx HB2.out hb)
      clear hb
      go_wp2_with fail
      go_ret
      exact ⟨rfl, HB3.out⟩
    by_cases hk2 : k < -3000
    · clear hva hvb
      go_wp2_with fail
      refine (HAw.out _ HB2.out).mono ?_
      rintro e w3 ⟨rfl, hb⟩
      have HB3 := Lib.hid (below_nx HB2.out hb)
      clear hb
      go_wp2_with fail
      go_ret
      exact ⟨rfl, HB3.out⟩
    obtain ⟨b4, o4, c4, e4, hat⟩ := hva.ats (by simp)
    injection e4 with e4 e4n e4c
    subst e4
    obtain ⟨b3, o3, c3, e3, hrt⟩ := hvb.rats (by simp)
    injection e3 with e3 e3n e3c
    subst e3
    have hz0 := (Sz.float hf0).mono (k := 2000) (by omega)
    have hz1 := (Sz.float hf1).mono (k := 2000) (by omega)
    have hz2 := (Sz.float hf2).mono (k := 2000) (by omega)
    have ha0 := hat.at_ 0 (by simp)
    have ha1 := hat.at_ 1 (by simp)
    have ha2 := hat.at_ 2 (by simp)
    have hr0 := hrt.at_ 0 (by simp)
    have hr1 := hrt.at_ 1 (by simp)
    have hr2 := hrt.at_ 2 (by simp)
    simp only [List.getElem_cons_zero, List.getElem_cons_succ] at ha0 ha1 ha2 hr0 hr1 hr2
    generalize fdy b0 = d0 at *
    generalize fdy b1 = d1 at *
    generalize fdy b2 = d2 at *
    have HZ0 := Lib.hid (hz0.mono (k := 10000) (by omega))
    have HZ1 := Lib.hid (hz1.mono (k := 10000) (by omega))
    have HZ2 := Lib.hid (hz2.mono (k := 10000) (by omega))
    have hp := hz0.mul hz1 (n := 4000) (by omega)
    have hq := hp.add hz2 (n := 4001) (by omega) (by omega)
    have HZp := Lib.hid (hp.mono (k := 10000) (by omega))
    have HZq := Lib.hid (hq.mono (k := 10000) (by omega))
    have HZX := Lib.hid (hq.shift k (n := 10000) (by omega))
    have HFar := Lib.hid (show far k = k by unfold far; rw [if_neg (by omega), if_neg (by omega)])
    have HKa := Lib.hid (show k.natAbs ≤ 1099511627776 by omega)
    have HA0 := Lib.hid ha0
    have HA1 := Lib.hid ha1
    have HA2 := Lib.hid ha2
    have HR0 := Lib.hid hr0
    have HR1 := Lib.hid hr1
    have HR2 := Lib.hid hr2
    have HG9 := Lib.hid (HG.out.below HB2.out)
    clear hva hvb hat hrt e4n e4c e3n e3c hz0 hz1 hz2 ha0 ha1 ha2 hr0 hr1 hr2 hp hq hf0 hf1 hf2 hz3
    go_wp2_with fail
    refine wp_region_fam2 [39, 40, 41, 42, 43, 44, 45, 46, 47, 48, 49, 50, 51, 52, 53, 54, 55, 56, 57, 58, 59, 60, 61, 62, 63, 64, 65, 66, 12, 13] [fun v _ => v = .slice (some ⟨b4, o4, none⟩) 3 c1, fun v _ => v = .pointer (some ⟨b4, o4, none⟩), fun v W => PV W v (d0), fun v _ => v = .slice (some ⟨b4, o4, none⟩) 3 c1, fun v _ => v = .pointer (some ⟨b4, o4 + 4, none⟩), fun v W => PV W v (d1), fun v W => LP W v ([d0, d1]), fun v W => PV W v (d0 * d1), fun v _ => v = .slice (some ⟨b4, o4, none⟩) 3 c1, fun v _ => v = .pointer (some ⟨b4, o4 + 8, none⟩), fun v W => PV W v (d2), fun v W => LP W v ([d0 * d1, d2]), fun v W => PV W v (d0 * d1 + d2), fun v _ => v = .int .i64 k, fun v W => PV W v ((d0 * d1 + d2) * dy 1 k), fun v _ => v = .slice (some ⟨b3, o3, none⟩) 3 c2, fun v _ => v = .pointer (some ⟨b3, o3, none⟩), fun v W => DV W v (d0), fun v _ => v = .slice (some ⟨b3, o3, none⟩) 3 c2, fun v _ => v = .pointer (some ⟨b3, o3 + 3, none⟩), fun v W => DV W v (d1), fun v W => DV W v (d0 * d1), fun v _ => v = .slice (some ⟨b3, o3, none⟩) 3 c2, fun v _ => v = .pointer (some ⟨b3, o3 + 6, none⟩), fun v W => DV W v (d2), fun v W => DV W v (d0 * d1 + d2), fun v _ => v = .int .i64 k, fun v W => DV W v ((d0 * d1 + d2) * dy 1 k), fun v W => NBp w2.heap.size W v, fun v W => NBr w2.heap.size W v] 29 (fun s W => ∃ g, s 12 = .pointer (some ⟨g, 0, none⟩) ∧ w2.heap.size ≤ g ∧ PBx W g ((d0 * d1 + d2) * dy 1 k) ∧ Below w2.heap.size w2 W ∧ DV W (s 66) ((d0 * d1 + d2) * dy 1 k)) (fun s W => ∃ g g', s 12 = .pointer (some ⟨g, 0, none⟩) ∧ s 13 = .pointer (some ⟨g', 0, none⟩) ∧ PBx W g ((d0 * d1 + d2) * dy 1 k) ∧ Bx W g' ((d0 * d1 + d2) * dy 1 k) ∧ Below w2.heap.size w2 W) _ _ _
      rfl (split_two 30 _ rfl) (by kernel_rfl) (by kernel_rfl) (by decide) (by decide) (by kernel_rfl) rfl rfl ⟨mono_eq _, mono_eq _, mono_pv _, mono_eq _, mono_eq _, mono_pv _, mono_lp _, mono_pv _, mono_eq _, mono_eq _, mono_pv _, mono_lp _, mono_pv _, mono_eq _, mono_pv _, mono_eq _, mono_eq _, mono_dv _, mono_eq _, mono_eq _, mono_dv _, mono_dv _, mono_eq _, mono_eq _, mono_dv _, mono_dv _, mono_eq _, mono_dv _, mono_nbp _, mono_nbr _, trivial⟩ ⟨?_, ?_, ?_, ?_, ?_, ?_, ?_, ?_, ?_, ?_, ?_, ?_, ?_, ?_, ?_, ?_, ?_, ?_, ?_, ?_, ?_, ?_, ?_, ?_, ?_, ?_, ?_, ?_, ?_, ?_, trivial⟩ ?_ ?_ ?_ ?_
    · intro s W hB hfr hdep
      have g9 : s 9 = .slice (some ⟨b4, o4, none⟩) 3 c1 := hfr 9 (by decide)
      refine stepG_plain rfl ?_
      exact op_value _ (by simp [go_sem, evS, g9]) ⟨rfl, Below.refl _ _⟩
    · intro s W hB hfr hdep
      have g39 : s 39 = .slice (some ⟨b4, o4, none⟩) 3 c1 := hdep 0 rfl
      refine stepG_plain rfl ?_
      exact op_value (.pointer (some ⟨b4, o4, none⟩)) (by simp [go_sem, evS, g39]) ⟨rfl, Below.refl _ _⟩
    · intro s W hB hfr hdep
      have g40 : s 40 = .pointer (some ⟨b4, o4, none⟩) := hdep 1 rfl
      refine stepG_plain rfl ?_
      obtain ⟨a0, a1, a2, a3, k0, k1, k2, k3, hv⟩ := HA0.out.below hB
      replace k0 : W.cell? ⟨b4, o4, none⟩ = some a0 := k0
      replace k1 : W.cell? ⟨b4, o4 + 1, none⟩ = some a1 := k1
      replace k2 : W.cell? ⟨b4, o4 + 2, none⟩ = some a2 := k2
      replace k3 : W.cell? ⟨b4, o4 + 3, none⟩ = some a3 := k3
      exact op_value (.agg #[a0, a1, a2, a3]) (by simp [go_sem, evS, g40, k0, k1, k2, k3]) ⟨hv, Below.refl _ _⟩
    · intro s W hB hfr hdep
      have g9 : s 9 = .slice (some ⟨b4, o4, none⟩) 3 c1 := hfr 9 (by decide)
      refine stepG_plain rfl ?_
      exact op_value _ (by simp [go_sem, evS, g9]) ⟨rfl, Below.refl _ _⟩
    · intro s W hB hfr hdep
      have g42 : s 42 = .slice (some ⟨b4, o4, none⟩) 3 c1 := hdep 3 rfl
      refine stepG_plain rfl ?_
      exact op_value (.pointer (some ⟨b4, o4 + 4, none⟩)) (by simp [go_sem, evS, g42]) ⟨rfl, Below.refl _ _⟩
    · intro s W hB hfr hdep
      have g43 : s 43 = .pointer (some ⟨b4, o4 + 4, none⟩) := hdep 4 rfl
      refine stepG_plain rfl ?_
      obtain ⟨a0, a1, a2, a3, k0, k1, k2, k3, hv⟩ := HA1.out.below hB
      replace k0 : W.cell? ⟨b4, o4 + 4, none⟩ = some a0 := k0
      replace k1 : W.cell? ⟨b4, o4 + 5, none⟩ = some a1 := k1
      replace k2 : W.cell? ⟨b4, o4 + 6, none⟩ = some a2 := k2
      replace k3 : W.cell? ⟨b4, o4 + 7, none⟩ = some a3 := k3
      exact op_value (.agg #[a0, a1, a2, a3]) (by simp [go_sem, evS, g43, k0, k1, k2, k3]) ⟨hv, Below.refl _ _⟩
    · intro s W hB hfr hdep
      have g41 : PV W (s 41) (d0) := hdep 2 rfl
      have g44 : PV W (s 44) (d1) := hdep 5 rfl
      refine stepG_plain rfl ?_
      obtain ⟨cs, hcs, hl⟩ := LP.two g41 g44
      obtain ⟨A0, n0, c0, B0, m0, e0, x0, _⟩ := g41
      obtain ⟨A1, n1, c1, B1, m1, e1, x1, _⟩ := g44
      rw [x0, x1] at hcs
      subst hcs
      exact op_makes _ _ (by simp [go_sem, evS, x0, x1]) ⟨hl, below_one⟩
    · intro s W hB hfr hdep
      have g45 : LP W (s 45) ([d0, d1]) := hdep 6 rfl
      refine stepG_plain rfl ?_
      exact op_call 20 #[s 45] (by simp [go_sem, evS]) (g45.mul2 10000 (by omega) HZ0.out HZ1.out (HG9.out.below hB))
    · intro s W hB hfr hdep
      have g9 : s 9 = .slice (some ⟨b4, o4, none⟩) 3 c1 := hfr 9 (by decide)
      refine stepG_plain rfl ?_
      exact op_value _ (by simp [go_sem, evS, g9]) ⟨rfl, Below.refl _ _⟩
    · intro s W hB hfr hdep
      have g47 : s 47 = .slice (some ⟨b4, o4, none⟩) 3 c1 := hdep 8 rfl
      refine stepG_plain rfl ?_
      exact op_value (.pointer (some ⟨b4, o4 + 8, none⟩)) (by simp [go_sem, evS, g47]) ⟨rfl, Below.refl _ _⟩
    · intro s W hB hfr hdep
      have g48 : s 48 = .pointer (some ⟨b4, o4 + 8, none⟩) := hdep 9 rfl
      refine stepG_plain rfl ?_
      obtain ⟨a0, a1, a2, a3, k0, k1, k2, k3, hv⟩ := HA2.out.below hB
      replace k0 : W.cell? ⟨b4, o4 + 8, none⟩ = some a0 := k0
      replace k1 : W.cell? ⟨b4, o4 + 9, none⟩ = some a1 := k1
      replace k2 : W.cell? ⟨b4, o4 + 10, none⟩ = some a2 := k2
      replace k3 : W.cell? ⟨b4, o4 + 11, none⟩ = some a3 := k3
      exact op_value (.agg #[a0, a1, a2, a3]) (by simp [go_sem, evS, g48, k0, k1, k2, k3]) ⟨hv, Below.refl _ _⟩
    · intro s W hB hfr hdep
      have g46 : PV W (s 46) (d0 * d1) := hdep 7 rfl
      have g49 : PV W (s 49) (d2) := hdep 10 rfl
      refine stepG_plain rfl ?_
      obtain ⟨cs, hcs, hl⟩ := LP.two g46 g49
      obtain ⟨A0, n0, c0, B0, m0, e0, x0, _⟩ := g46
      obtain ⟨A1, n1, c1, B1, m1, e1, x1, _⟩ := g49
      rw [x0, x1] at hcs
      subst hcs
      exact op_makes _ _ (by simp [go_sem, evS, x0, x1]) ⟨hl, below_one⟩
    · intro s W hB hfr hdep
      have g50 : LP W (s 50) ([d0 * d1, d2]) := hdep 11 rfl
      refine stepG_plain rfl ?_
      exact op_call 19 #[s 50] (by simp [go_sem, evS]) (g50.add2 10000 (by omega) HZp.out HZ2.out (HG9.out.below hB))
    · intro s W hB hfr hdep
      have g3 : s 3 = .int .i64 k := hfr 3 (by decide)
      refine stepG_plain rfl ?_
      exact op_value _ (by simp [go_sem, evS, g3]) ⟨rfl, Below.refl _ _⟩
    · intro s W hB hfr hdep
      have g51 : PV W (s 51) (d0 * d1 + d2) := hdep 12 rfl
      have g52 : s 52 = .int .i64 k := hdep 13 rfl
      refine stepG_plain rfl ?_
      exact op_call 21 #[s 51, .int .i64 k] (by simp [go_sem, evS, g52]) (RetP.eq (pshift_v k g51 (HZq.out.fitp (by omega)) (HG9.out.below hB)) (by rw [HFar.out]))
    · intro s W hB hfr hdep
      have g10 : s 10 = .slice (some ⟨b3, o3, none⟩) 3 c2 := hfr 10 (by decide)
      refine stepG_plain rfl ?_
      exact op_value _ (by simp [go_sem, evS, g10]) ⟨rfl, Below.refl _ _⟩
    · intro s W hB hfr hdep
      have g54 : s 54 = .slice (some ⟨b3, o3, none⟩) 3 c2 := hdep 15 rfl
      refine stepG_plain rfl ?_
      exact op_value (.pointer (some ⟨b3, o3, none⟩)) (by simp [go_sem, evS, g54]) ⟨rfl, Below.refl _ _⟩
    · intro s W hB hfr hdep
      have g55 : s 55 = .pointer (some ⟨b3, o3, none⟩) := hdep 16 rfl
      refine stepG_plain rfl ?_
      obtain ⟨a0, a1, a2, k0, k1, k2, hv⟩ := HR0.out.below hB
      replace k0 : W.cell? ⟨b3, o3, none⟩ = some a0 := k0
      replace k1 : W.cell? ⟨b3, o3 + 1, none⟩ = some a1 := k1
      replace k2 : W.cell? ⟨b3, o3 + 2, none⟩ = some a2 := k2
      exact op_value (.agg #[a0, a1, a2]) (by simp [go_sem, evS, g55, k0, k1, k2]) ⟨hv, Below.refl _ _⟩
    · intro s W hB hfr hdep
      have g10 : s 10 = .slice (some ⟨b3, o3, none⟩) 3 c2 := hfr 10 (by decide)
      refine stepG_plain rfl ?_
      exact op_value _ (by simp [go_sem, evS, g10]) ⟨rfl, Below.refl _ _⟩
    · intro s W hB hfr hdep
      have g57 : s 57 = .slice (some ⟨b3, o3, none⟩) 3 c2 := hdep 18 rfl
      refine stepG_plain rfl ?_
      exact op_value (.pointer (some ⟨b3, o3 + 3, none⟩)) (by simp [go_sem, evS, g57]) ⟨rfl, Below.refl _ _⟩
    · intro s W hB hfr hdep
      have g58 : s 58 = .pointer (some ⟨b3, o3 + 3, none⟩) := hdep 19 rfl
      refine stepG_plain rfl ?_
      obtain ⟨a0, a1, a2, k0, k1, k2, hv⟩ := HR1.out.below hB
      replace k0 : W.cell? ⟨b3, o3 + 3, none⟩ = some a0 := k0
      replace k1 : W.cell? ⟨b3, o3 + 4, none⟩ = some a1 := k1
      replace k2 : W.cell? ⟨b3, o3 + 5, none⟩ = some a2 := k2
      exact op_value (.agg #[a0, a1, a2]) (by simp [go_sem, evS, g58, k0, k1, k2]) ⟨hv, Below.refl _ _⟩
    · intro s W hB hfr hdep
      have g56 : DV W (s 56) (d0) := hdep 17 rfl
      have g59 : DV W (s 59) (d1) := hdep 20 rfl
      refine stepG_plain rfl ?_
      exact op_call 10 #[s 56, s 59] (by simp [go_sem, evS]) (rmul_v g56 g59 (HZ0.out.fit (by omega)) (HZ1.out.fit (by omega)))
    · intro s W hB hfr hdep
      have g10 : s 10 = .slice (some ⟨b3, o3, none⟩) 3 c2 := hfr 10 (by decide)
      refine stepG_plain rfl ?_
      exact op_value _ (by simp [go_sem, evS, g10]) ⟨rfl, Below.refl _ _⟩
    · intro s W hB hfr hdep
      have g61 : s 61 = .slice (some ⟨b3, o3, none⟩) 3 c2 := hdep 22 rfl
      refine stepG_plain rfl ?_
      exact op_value (.pointer (some ⟨b3, o3 + 6, none⟩)) (by simp [go_sem, evS, g61]) ⟨rfl, Below.refl _ _⟩
    · intro s W hB hfr hdep
      have g62 : s 62 = .pointer (some ⟨b3, o3 + 6, none⟩) := hdep 23 rfl
      refine stepG_plain rfl ?_
      obtain ⟨a0, a1, a2, k0, k1, k2, hv⟩ := HR2.out.below hB
      replace k0 : W.cell? ⟨b3, o3 + 6, none⟩ = some a0 := k0
      replace k1 : W.cell? ⟨b3, o3 + 7, none⟩ = some a1 := k1
      replace k2 : W.cell? ⟨b3, o3 + 8, none⟩ = some a2 := k2
      exact op_value (.agg #[a0, a1, a2]) (by simp [go_sem, evS, g62, k0, k1, k2]) ⟨hv, Below.refl _ _⟩
    · intro s W hB hfr hdep
      have g60 : DV W (s 60) (d0 * d1) := hdep 21 rfl
      have g63 : DV W (s 63) (d2) := hdep 24 rfl
      refine stepG_plain rfl ?_
      exact op_call 9 #[s 60, s 63] (by simp [go_sem, evS]) (radd_v g60 g63 (HZp.out.fit (by omega)) (HZ2.out.fit (by omega)))
    · intro s W hB hfr hdep
      have g3 : s 3 = .int .i64 k := hfr 3 (by decide)
      refine stepG_plain rfl ?_
      exact op_value _ (by simp [go_sem, evS, g3]) ⟨rfl, Below.refl _ _⟩
    · intro s W hB hfr hdep
      have g64 : DV W (s 64) (d0 * d1 + d2) := hdep 25 rfl
      have g65 : s 65 = .int .i64 k := hdep 26 rfl
      refine stepG_plain rfl ?_
      exact op_call 22 #[s 64, .int .i64 k] (by simp [go_sem, evS, g65]) (rshift_v k HKa.out g64 (HZq.out.fit (by omega)))
    · intro s W hB hfr hdep
      refine stepG_plain rfl ?_
      exact op_makes _ _ (by simp [go_sem, evS]) ⟨NBp.new W hB.size, below_one⟩
    · intro s W hB hfr hdep
      refine stepG_plain rfl ?_
      exact op_makes _ _ (by simp [go_sem, evS]) ⟨NBr.new W hB.size, below_one⟩
    · intro o s W ho hT hfr
      injection ho with ho
      subst ho
      obtain ⟨g, gp, hlo, gP, hB, gD⟩ := hT
      refine stepG_plain rfl ?_
      refine op_makes _ _ (by simp [go_sem, evS]) ⟨⟨g, ?_, hlo, gP.below below_one, below_al hB, ?_⟩, NBr.new W hB.size⟩
      · simpa [sput] using gp
      · simpa [sput] using gD.below below_one
    · intro s W hall hB hfr
      have gA : NBp w2.heap.size W (s 12) := hall 28 (by decide) (by decide)
      have gS : PV W (s 53) ((d0 * d1 + d2) * dy 1 k) := hall 14 (by decide) (by decide)
      have gD : DV W (s 66) ((d0 * d1 + d2) * dy 1 k) := hall 27 (by decide) (by decide)
      clear hall
      obtain ⟨g, gp, hlo, gB⟩ := gA
      obtain ⟨x, hx, hv, hxd⟩ := gS.d4
      unfold D4.val at hv
      obtain ⟨k0, k1, k2, k3, fr0, fr1, fr2, fr3⟩ := cells4 gB
      refine stepG_plain rfl ?_
      have hP9 := pbx_store gB hx
      have hB9 := ((((hB.setCell (p := ⟨g, 0, none⟩) hlo (.bool (ng (mant x.d)))).setCell (p := ⟨g, 1, none⟩) hlo (.slice x.A x.n x.c)).setCell (p := ⟨g, 2, none⟩) hlo (.bool (ng (expo x.d)))).setCell (p := ⟨g, 3, none⟩) hlo (.slice x.A' x.n' x.c'))
      exact op_skip _ (by simp [go_sem, evS, gp, hv, fr0, fr1, fr2, fr3, k0, k1, k2, k3]) ⟨⟨g, gp, hlo, hP9.eq hxd, hB9, gD.store4 gB _ _ _ _⟩, fun h => NBr.store4 (show NBr w2.heap.size W (s 13) from h) gB _ _ _ _⟩
    · intro s W hT hF hfr
      obtain ⟨g, gp, _, gP, hB, ng, A9, n9, c9, E9, L9, gv, gR, gN, gd⟩ := hT
      obtain ⟨p, pp, hlo, gB⟩ := (show NBr w2.heap.size W (s 13) from hF)
      have fr0 := gB.frozen 0
      have fr1 := gB.frozen 1
      have fr2 := gB.frozen 2
      obtain ⟨k0, k1, k2⟩ := cells3 gB
      refine stepG_plain rfl ?_
      have hP9 := gP.store3r gB (.bool ng) (.slice A9 n9 c9) (.int .i64 E9)
      have hB9 := (((hB.setCell (p := ⟨p, 0, none⟩) hlo (.bool ng)).setCell (p := ⟨p, 1, none⟩) hlo (.slice A9 n9 c9)).setCell (p := ⟨p, 2, none⟩) hlo (.int .i64 E9))
      exact op_skip _ (by simp [go_sem, evS, pp, gv, fr0, fr1, fr2, k0, k1, k2]) ⟨g, p, gp, pp, hP9, bx_store gB gR gN gd, hB9⟩
    intro s w8 hpost
    obtain ⟨g1, g2, hg1, hg2, hP, hR, hB⟩ := hpost
    have HP1 := Lib.hid hP
    have HX1 := Lib.hid hR
    have HB8 := Lib.hid (below_nx HB2.out hB)
    replace HA0 := Lib.hid (HA0.out.below hB)
    replace HA1 := Lib.hid (HA1.out.below hB)
    replace HA2 := Lib.hid (HA2.out.below hB)
    replace HR0 := Lib.hid (HR0.out.below hB)
    replace HR1 := Lib.hid (HR1.out.below hB)
    replace HR2 := Lib.hid (HR2.out.below hB)
    replace HG9 := Lib.hid (HG9.out.below hB)
    clear hP hR hB
    simp [setAll, hg1, hg2]
    clear hg1 hg2

    generalize s 12 = s12
    generalize s 13 = s13
    go_wp2_with fail
    refine wp_region_fam [67, 68, 69, 70, 71, 72, 73, 74, 75, 76, 77, 78, 79, 80, 81, 82, 83, 84, 85, 86, 87, 88, 89, 90, 91, 92, 93, 94, 95, 96, 97, 98, 99, 100, 101, 102, 103, 104, 105, 106, 107, 108, 109, 110, 111, 8] [fun v W => PV W v ((d0 * d1 + d2) * dy 1 k), fun v _ => v = .float .f64 (nearD ((d0 * d1 + d2) * dy 1 k)), fun v W => DV W v ((d0 * d1 + d2) * dy 1 k), fun v _ => v = .float .f64 (nearD ((d0 * d1 + d2) * dy 1 k)), fun v _ => v = .bool true, fun v _ => v = .bool true, fun v W => PV W v ((d0 * d1 + d2) * dy 1 k), fun v _ => v = .int .i64 (mant ((d0 * d1 + d2) * dy 1 k)).sign, fun v W => DV W v ((d0 * d1 + d2) * dy 1 k), fun v _ => v = .int .i64 (mant ((d0 * d1 + d2) * dy 1 k)).sign, fun v _ => v = .bool true, fun v _ => v = .bool true, fun v _ => v = .bool true, fun v W => PV W v ((d0 * d1 + d2) * dy 1 k), fun v _ => v = .slice (some ⟨b4, o4, none⟩) 3 c1, fun v _ => v = .pointer (some ⟨b4, o4 + 8, none⟩), fun v W => PV W v (d2), fun v _ => v = .int .i64 (mant ((d0 * d1 + d2) * dy 1 k + -d2)).sign, fun v W => DV W v ((d0 * d1 + d2) * dy 1 k), fun v _ => v = .slice (some ⟨b3, o3, none⟩) 3 c2, fun v _ => v = .pointer (some ⟨b3, o3 + 6, none⟩), fun v W => DV W v (d2), fun v _ => v = .int .i64 (mant ((d0 * d1 + d2) * dy 1 k + -d2)).sign, fun v _ => v = .bool true, fun v _ => v = .bool true, fun v _ => v = .bool true, fun v _ => v = .slice (some ⟨b4, o4, none⟩) 3 c1, fun v _ => v = .pointer (some ⟨b4, o4, none⟩), fun v W => PV W v (d0), fun v _ => v = .slice (some ⟨b4, o4, none⟩) 3 c1, fun v _ => v = .pointer (some ⟨b4, o4 + 4, none⟩), fun v W => PV W v (d1), fun v _ => v = .int .i64 (mant (d0 + -d1)).sign, fun v _ => v = .slice (some ⟨b3, o3, none⟩) 3 c2, fun v _ => v = .pointer (some ⟨b3, o3, none⟩), fun v W => DV W v (d0), fun v _ => v = .slice (some ⟨b3, o3, none⟩) 3 c2, fun v _ => v = .pointer (some ⟨b3, o3 + 3, none⟩), fun v W => DV W v (d1), fun v _ => v = .int .i64 (mant (d0 + -d1)).sign, fun v _ => v = .bool true, fun v _ => v = .bool true, fun v _ => v = .bool true, fun v _ => v = .bool true, fun v _ => v = .bool true, fun v _ => v = .bool true]
      rfl (by kernel_rfl) (by kernel_rfl) (by decide) ⟨mono_pv _, mono_eq _, mono_dv _, mono_eq _, mono_eq _, mono_eq _, mono_pv _, mono_eq _, mono_dv _, mono_eq _, mono_eq _, mono_eq _, mono_eq _, mono_pv _, mono_eq _, mono_eq _, mono_pv _, mono_eq _, mono_dv _, mono_eq _, mono_eq _, mono_dv _, mono_eq _, mono_eq _, mono_eq _, mono_eq _, mono_eq _, mono_eq _, mono_pv _, mono_eq _, mono_eq _, mono_pv _, mono_eq _, mono_eq _, mono_eq _, mono_dv _, mono_eq _, mono_eq _, mono_dv _, mono_eq _, mono_eq _, mono_eq _, mono_eq _, mono_eq _, mono_eq _, mono_eq _, trivial⟩ ⟨?_, ?_, ?_, ?_, ?_, ?_, ?_, ?_, ?_, ?_, ?_, ?_, ?_, ?_, ?_, ?_, ?_, ?_, ?_, ?_, ?_, ?_, ?_, ?_, ?_, ?_, ?_, ?_, ?_, ?_, ?_, ?_, ?_, ?_, ?_, ?_, ?_, ?_, ?_, ?_, ?_, ?_, ?_, ?_, ?_, ?_, trivial⟩ ?_
    · intro s W hB hfr hdep
      have g12 : s 12 = .pointer (some ⟨g1, 0, none⟩) := hfr 12 (by decide)
      refine stepG_plain rfl ?_
      obtain ⟨p, pd, pok, gB⟩ := HP1.out.below hB
      obtain ⟨k0, k1, k2, k3, _⟩ := cells4 (show Blk W _ 37 #[.bool (ng (mant p.d)), .slice p.A p.n p.c, .bool (ng (expo p.d)), .slice p.A' p.n' p.c'] from gB)
      exact op_value p.val (by simp [D4.val, go_sem, evS, g12, k0, k1, k2, k3]) ⟨pv_eq pok.pv pd, Below.refl _ _⟩
    · intro s W hB hfr hdep
      have g67 : PV W (s 67) ((d0 * d1 + d2) * dy 1 k) := hdep 0 rfl
      refine stepG_plain rfl ?_
      exact op_callv 24 #[s 67] _ (by simp [go_sem, evS]) (pnear_v g67 10000 (by omega) HZX.out (HG9.out.below hB)) (fun _ _ => rfl)
    · intro s W hB hfr hdep
      have g13 : s 13 = .pointer (some ⟨g2, 0, none⟩) := hfr 13 (by decide)
      refine stepG_plain rfl ?_
      obtain ⟨ng, A9, n9, c9, E9, L9, gB, gR, gN, gd⟩ := HX1.out.below hB
      obtain ⟨k0, k1, k2⟩ := cells3 gB
      exact op_value (.agg #[.bool ng, .slice A9 n9 c9, .int .i64 E9]) (by simp [go_sem, evS, g13, k0, k1, k2]) ⟨⟨_, _, _, _, _, _, rfl, gR, gN, gd⟩, Below.refl _ _⟩
    · intro s W hB hfr hdep
      have g69 : DV W (s 69) ((d0 * d1 + d2) * dy 1 k) := hdep 2 rfl
      refine stepG_plain rfl ?_
      exact op_callv 25 #[s 69] _ (by simp [go_sem, evS]) (rnear_v g69 HZX.out (by omega)) (fun _ _ => rfl)
    · intro s W hB hfr hdep
      have g68 : s 68 = .float .f64 (nearD ((d0 * d1 + d2) * dy 1 k)) := hdep 1 rfl
      have g70 : s 70 = .float .f64 (nearD ((d0 * d1 + d2) * dy 1 k)) := hdep 3 rfl
      refine stepG_plain rfl ?_
      exact op_callv 23 #[.float .f64 (nearD ((d0 * d1 + d2) * dy 1 k)), .float .f64 (nearD ((d0 * d1 + d2) * dy 1 k))] _ (by simp [go_sem, evS, g68, g70]) ((rsame_self _ W (near_lt _)).mono (fun e w' h => ⟨h.1, h.2 ▸ Below.refl _ _⟩)) (fun _ _ => rfl)
    · intro s W hB hfr hdep
      have g71 : s 71 = .bool true := hdep 4 rfl
      refine stepG_plain rfl ?_
      exact op_value _ (by simp [go_sem, evS, g71]) ⟨rfl, Below.refl _ _⟩
    · intro s W hB hfr hdep
      have g12 : s 12 = .pointer (some ⟨g1, 0, none⟩) := hfr 12 (by decide)
      have g72 : s 72 = .bool true := hdep 5 rfl
      refine stepG_on 5 72 true rfl rfl g72 ?_
      obtain ⟨p, pd, pok, gB⟩ := HP1.out.below hB
      obtain ⟨k0, k1, k2, k3, _⟩ := cells4 (show Blk W _ 37 #[.bool (ng (mant p.d)), .slice p.A p.n p.c, .bool (ng (expo p.d)), .slice p.A' p.n' p.c'] from gB)
      exact op_value p.val (by simp [D4.val, go_sem, evS, g12, g72, k0, k1, k2, k3]) ⟨pv_eq pok.pv pd, Below.refl _ _⟩
    · intro s W hB hfr hdep
      have g73 : PV W (s 73) ((d0 * d1 + d2) * dy 1 k) := hdep 6 rfl
      have g72 : s 72 = .bool true := hdep 5 rfl
      refine stepG_on 5 72 true rfl rfl g72 ?_
      exact op_callv 26 #[s 73] _ (by simp [go_sem, evS, g72]) (psign_v g73) (fun _ _ => rfl)
    · intro s W hB hfr hdep
      have g13 : s 13 = .pointer (some ⟨g2, 0, none⟩) := hfr 13 (by decide)
      have g72 : s 72 = .bool true := hdep 5 rfl
      refine stepG_on 5 72 true rfl rfl g72 ?_
      obtain ⟨ng, A9, n9, c9, E9, L9, gB, gR, gN, gd⟩ := HX1.out.below hB
      obtain ⟨k0, k1, k2⟩ := cells3 gB
      exact op_value (.agg #[.bool ng, .slice A9 n9 c9, .int .i64 E9]) (by simp [go_sem, evS, g13, g72, k0, k1, k2]) ⟨⟨_, _, _, _, _, _, rfl, gR, gN, gd⟩, Below.refl _ _⟩
    · intro s W hB hfr hdep
      have g75 : DV W (s 75) ((d0 * d1 + d2) * dy 1 k) := hdep 8 rfl
      have g72 : s 72 = .bool true := hdep 5 rfl
      refine stepG_on 5 72 true rfl rfl g72 ?_
      exact op_callv 27 #[s 75] _ (by simp [go_sem, evS, g72]) (rsign_v g75 (dy_mant ((d0 * d1 + d2) * dy 1 k)).symm) (fun _ _ => rfl)
    · intro s W hB hfr hdep
      have g74 : s 74 = .int .i64 (mant ((d0 * d1 + d2) * dy 1 k)).sign := hdep 7 rfl
      have g76 : s 76 = .int .i64 (mant ((d0 * d1 + d2) * dy 1 k)).sign := hdep 9 rfl
      have g72 : s 72 = .bool true := hdep 5 rfl
      refine stepG_on 5 72 true rfl rfl g72 ?_
      exact op_value (.bool true) (by simp [go_sem, evS, g74, g76, g72]) ⟨rfl, Below.refl _ _⟩
    · intro s W hB hfr hdep
      have g72 : s 72 = .bool true := hdep 5 rfl
      have g77 : s 77 = .bool true := hdep 10 rfl
      refine stepG_plain rfl ?_
      exact op_value (.bool true) (by simp [go_sem, evS, g72, g77]) ⟨rfl, Below.refl _ _⟩
    · intro s W hB hfr hdep
      have g78 : s 78 = .bool true := hdep 11 rfl
      refine stepG_plain rfl ?_
      exact op_value _ (by simp [go_sem, evS, g78]) ⟨rfl, Below.refl _ _⟩
    · intro s W hB hfr hdep
      have g12 : s 12 = .pointer (some ⟨g1, 0, none⟩) := hfr 12 (by decide)
      have g79 : s 79 = .bool true := hdep 12 rfl
      refine stepG_on 12 79 true rfl rfl g79 ?_
      obtain ⟨p, pd, pok, gB⟩ := HP1.out.below hB
      obtain ⟨k0, k1, k2, k3, _⟩ := cells4 (show Blk W _ 37 #[.bool (ng (mant p.d)), .slice p.A p.n p.c, .bool (ng (expo p.d)), .slice p.A' p.n' p.c'] from gB)
      exact op_value p.val (by simp [D4.val, go_sem, evS, g12, g79, k0, k1, k2, k3]) ⟨pv_eq pok.pv pd, Below.refl _ _⟩
    · intro s W hB hfr hdep
      have g9 : s 9 = .slice (some ⟨b4, o4, none⟩) 3 c1 := hfr 9 (by decide)
      have g79 : s 79 = .bool true := hdep 12 rfl
      refine stepG_on 12 79 true rfl rfl g79 ?_
      exact op_value _ (by simp [go_sem, evS, g9, g79]) ⟨rfl, Below.refl _ _⟩
    · intro s W hB hfr hdep
      have g81 : s 81 = .slice (some ⟨b4, o4, none⟩) 3 c1 := hdep 14 rfl
      have g79 : s 79 = .bool true := hdep 12 rfl
      refine stepG_on 12 79 true rfl rfl g79 ?_
      exact op_value (.pointer (some ⟨b4, o4 + 8, none⟩)) (by simp [go_sem, evS, g81, g79]) ⟨rfl, Below.refl _ _⟩
    · intro s W hB hfr hdep
      have g82 : s 82 = .pointer (some ⟨b4, o4 + 8, none⟩) := hdep 15 rfl
      have g79 : s 79 = .bool true := hdep 12 rfl
      refine stepG_on 12 79 true rfl rfl g79 ?_
      obtain ⟨a0, a1, a2, a3, k0, k1, k2, k3, hv⟩ := HA2.out.below hB
      replace k0 : W.cell? ⟨b4, o4 + 8, none⟩ = some a0 := k0
      replace k1 : W.cell? ⟨b4, o4 + 9, none⟩ = some a1 := k1
      replace k2 : W.cell? ⟨b4, o4 + 10, none⟩ = some a2 := k2
      replace k3 : W.cell? ⟨b4, o4 + 11, none⟩ = some a3 := k3
      exact op_value (.agg #[a0, a1, a2, a3]) (by simp [go_sem, evS, g82, g79, k0, k1, k2, k3]) ⟨hv, Below.refl _ _⟩
    · intro s W hB hfr hdep
      have g80 : PV W (s 80) ((d0 * d1 + d2) * dy 1 k) := hdep 13 rfl
      have g83 : PV W (s 83) (d2) := hdep 16 rfl
      have g79 : s 79 = .bool true := hdep 12 rfl
      refine stepG_on 12 79 true rfl rfl g79 ?_
      exact op_callv 28 #[s 80, s 83] _ (by simp [go_sem, evS, g79]) (pcmp_v g80 g83 10000 (by omega) HZX.out HZ2.out (HG9.out.below hB)) (fun _ _ => rfl)
    · intro s W hB hfr hdep
      have g13 : s 13 = .pointer (some ⟨g2, 0, none⟩) := hfr 13 (by decide)
      have g79 : s 79 = .bool true := hdep 12 rfl
      refine stepG_on 12 79 true rfl rfl g79 ?_
      obtain ⟨ng, A9, n9, c9, E9, L9, gB, gR, gN, gd⟩ := HX1.out.below hB
      obtain ⟨k0, k1, k2⟩ := cells3 gB
      exact op_value (.agg #[.bool ng, .slice A9 n9 c9, .int .i64 E9]) (by simp [go_sem, evS, g13, g79, k0, k1, k2]) ⟨⟨_, _, _, _, _, _, rfl, gR, gN, gd⟩, Below.refl _ _⟩
    · intro s W hB hfr hdep
      have g10 : s 10 = .slice (some ⟨b3, o3, none⟩) 3 c2 := hfr 10 (by decide)
      have g79 : s 79 = .bool true := hdep 12 rfl
      refine stepG_on 12 79 true rfl rfl g79 ?_
      exact op_value _ (by simp [go_sem, evS, g10, g79]) ⟨rfl, Below.refl _ _⟩
    · intro s W hB hfr hdep
      have g86 : s 86 = .slice (some ⟨b3, o3, none⟩) 3 c2 := hdep 19 rfl
      have g79 : s 79 = .bool true := hdep 12 rfl
      refine stepG_on 12 79 true rfl rfl g79 ?_
      exact op_value (.pointer (some ⟨b3, o3 + 6, none⟩)) (by simp [go_sem, evS, g86, g79]) ⟨rfl, Below.refl _ _⟩
    · intro s W hB hfr hdep
      have g87 : s 87 = .pointer (some ⟨b3, o3 + 6, none⟩) := hdep 20 rfl
      have g79 : s 79 = .bool true := hdep 12 rfl
      refine stepG_on 12 79 true rfl rfl g79 ?_
      obtain ⟨a0, a1, a2, k0, k1, k2, hv⟩ := HR2.out.below hB
      replace k0 : W.cell? ⟨b3, o3 + 6, none⟩ = some a0 := k0
      replace k1 : W.cell? ⟨b3, o3 + 7, none⟩ = some a1 := k1
      replace k2 : W.cell? ⟨b3, o3 + 8, none⟩ = some a2 := k2
      exact op_value (.agg #[a0, a1, a2]) (by simp [go_sem, evS, g87, g79, k0, k1, k2]) ⟨hv, Below.refl _ _⟩
    · intro s W hB hfr hdep
      have g85 : DV W (s 85) ((d0 * d1 + d2) * dy 1 k) := hdep 18 rfl
      have g88 : DV W (s 88) (d2) := hdep 21 rfl
      have g79 : s 79 = .bool true := hdep 12 rfl
      refine stepG_on 12 79 true rfl rfl g79 ?_
      exact op_callv 29 #[s 85, s 88] _ (by simp [go_sem, evS, g79]) (rcmp_v g85 g88 (HZX.out.fit (by omega)) (HZ2.out.fit (by omega)) (dy_mant ((d0 * d1 + d2) * dy 1 k + -d2)).symm) (fun _ _ => rfl)
    · intro s W hB hfr hdep
      have g84 : s 84 = .int .i64 (mant ((d0 * d1 + d2) * dy 1 k + -d2)).sign := hdep 17 rfl
      have g89 : s 89 = .int .i64 (mant ((d0 * d1 + d2) * dy 1 k + -d2)).sign := hdep 22 rfl
      have g79 : s 79 = .bool true := hdep 12 rfl
      refine stepG_on 12 79 true rfl rfl g79 ?_
      exact op_value (.bool true) (by simp [go_sem, evS, g84, g89, g79]) ⟨rfl, Below.refl _ _⟩
    · intro s W hB hfr hdep
      have g79 : s 79 = .bool true := hdep 12 rfl
      have g90 : s 90 = .bool true := hdep 23 rfl
      refine stepG_plain rfl ?_
      exact op_value (.bool true) (by simp [go_sem, evS, g79, g90]) ⟨rfl, Below.refl _ _⟩
    · intro s W hB hfr hdep
      have g91 : s 91 = .bool true := hdep 24 rfl
      refine stepG_plain rfl ?_
      exact op_value _ (by simp [go_sem, evS, g91]) ⟨rfl, Below.refl _ _⟩
    · intro s W hB hfr hdep
      have g9 : s 9 = .slice (some ⟨b4, o4, none⟩) 3 c1 := hfr 9 (by decide)
      have g92 : s 92 = .bool true := hdep 25 rfl
      refine stepG_on 25 92 true rfl rfl g92 ?_
      exact op_value _ (by simp [go_sem, evS, g9, g92]) ⟨rfl, Below.refl _ _⟩
    · intro s W hB hfr hdep
      have g93 : s 93 = .slice (some ⟨b4, o4, none⟩) 3 c1 := hdep 26 rfl
      have g92 : s 92 = .bool true := hdep 25 rfl
      refine stepG_on 25 92 true rfl rfl g92 ?_
      exact op_value (.pointer (some ⟨b4, o4, none⟩)) (by simp [go_sem, evS, g93, g92]) ⟨rfl, Below.refl _ _⟩
    · intro s W hB hfr hdep
      have g94 : s 94 = .pointer (some ⟨b4, o4, none⟩) := hdep 27 rfl
      have g92 : s 92 = .bool true := hdep 25 rfl
      refine stepG_on 25 92 true rfl rfl g92 ?_
      obtain ⟨a0, a1, a2, a3, k0, k1, k2, k3, hv⟩ := HA0.out.below hB
      replace k0 : W.cell? ⟨b4, o4, none⟩ = some a0 := k0
      replace k1 : W.cell? ⟨b4, o4 + 1, none⟩ = some a1 := k1
      replace k2 : W.cell? ⟨b4, o4 + 2, none⟩ = some a2 := k2
      replace k3 : W.cell? ⟨b4, o4 + 3, none⟩ = some a3 := k3
      exact op_value (.agg #[a0, a1, a2, a3]) (by simp [go_sem, evS, g94, g92, k0, k1, k2, k3]) ⟨hv, Below.refl _ _⟩
    · intro s W hB hfr hdep
      have g9 : s 9 = .slice (some ⟨b4, o4, none⟩) 3 c1 := hfr 9 (by decide)
      have g92 : s 92 = .bool true := hdep 25 rfl
      refine stepG_on 25 92 true rfl rfl g92 ?_
      exact op_value _ (by simp [go_sem, evS, g9, g92]) ⟨rfl, Below.refl _ _⟩
    · intro s W hB hfr hdep
      have g96 : s 96 = .slice (some ⟨b4, o4, none⟩) 3 c1 := hdep 29 rfl
      have g92 : s 92 = .bool true := hdep 25 rfl
      refine stepG_on 25 92 true rfl rfl g92 ?_
      exact op_value (.pointer (some ⟨b4, o4 + 4, none⟩)) (by simp [go_sem, evS, g96, g92]) ⟨rfl, Below.refl _ _⟩
    · intro s W hB hfr hdep
      have g97 : s 97 = .pointer (some ⟨b4, o4 + 4, none⟩) := hdep 30 rfl
      have g92 : s 92 = .bool true := hdep 25 rfl
      refine stepG_on 25 92 true rfl rfl g92 ?_
      obtain ⟨a0, a1, a2, a3, k0, k1, k2, k3, hv⟩ := HA1.out.below hB
      replace k0 : W.cell? ⟨b4, o4 + 4, none⟩ = some a0 := k0
      replace k1 : W.cell? ⟨b4, o4 + 5, none⟩ = some a1 := k1
      replace k2 : W.cell? ⟨b4, o4 + 6, none⟩ = some a2 := k2
      replace k3 : W.cell? ⟨b4, o4 + 7, none⟩ = some a3 := k3
      exact op_value (.agg #[a0, a1, a2, a3]) (by simp [go_sem, evS, g97, g92, k0, k1, k2, k3]) ⟨hv, Below.refl _ _⟩
    · intro s W hB hfr hdep
      have g95 : PV W (s 95) (d0) := hdep 28 rfl
      have g98 : PV W (s 98) (d1) := hdep 31 rfl
      have g92 : s 92 = .bool true := hdep 25 rfl
      refine stepG_on 25 92 true rfl rfl g92 ?_
      exact op_callv 28 #[s 95, s 98] _ (by simp [go_sem, evS, g92]) (pcmp_v g95 g98 10000 (by omega) HZ0.out HZ1.out (HG9.out.below hB)) (fun _ _ => rfl)
    · intro s W hB hfr hdep
      have g10 : s 10 = .slice (some ⟨b3, o3, none⟩) 3 c2 := hfr 10 (by decide)
      have g92 : s 92 = .bool true := hdep 25 rfl
      refine stepG_on 25 92 true rfl rfl g92 ?_
      exact op_value _ (by simp [go_sem, evS, g10, g92]) ⟨rfl, Below.refl _ _⟩
    · intro s W hB hfr hdep
      have g100 : s 100 = .slice (some ⟨b3, o3, none⟩) 3 c2 := hdep 33 rfl
      have g92 : s 92 = .bool true := hdep 25 rfl
      refine stepG_on 25 92 true rfl rfl g92 ?_
      exact op_value (.pointer (some ⟨b3, o3, none⟩)) (by simp [go_sem, evS, g100, g92]) ⟨rfl, Below.refl _ _⟩
    · intro s W hB hfr hdep
      have g101 : s 101 = .pointer (some ⟨b3, o3, none⟩) := hdep 34 rfl
      have g92 : s 92 = .bool true := hdep 25 rfl
      refine stepG_on 25 92 true rfl rfl g92 ?_
      obtain ⟨a0, a1, a2, k0, k1, k2, hv⟩ := HR0.out.below hB
      replace k0 : W.cell? ⟨b3, o3, none⟩ = some a0 := k0
      replace k1 : W.cell? ⟨b3, o3 + 1, none⟩ = some a1 := k1
      replace k2 : W.cell? ⟨b3, o3 + 2, none⟩ = some a2 := k2
      exact op_value (.agg #[a0, a1, a2]) (by simp [go_sem, evS, g101, g92, k0, k1, k2]) ⟨hv, Below.refl _ _⟩
    · intro s W hB hfr hdep
      have g10 : s 10 = .slice (some ⟨b3, o3, none⟩) 3 c2 := hfr 10 (by decide)
      have g92 : s 92 = .bool true := hdep 25 rfl
      refine stepG_on 25 92 true rfl rfl g92 ?_
      exact op_value _ (by simp [go_sem, evS, g10, g92]) ⟨rfl, Below.refl _ _⟩
    · intro s W hB hfr hdep
      have g103 : s 103 = .slice (some ⟨b3, o3, none⟩) 3 c2 := hdep 36 rfl
      have g92 : s 92 = .bool true := hdep 25 rfl
      refine stepG_on 25 92 true rfl rfl g92 ?_
      exact op_value (.pointer (some ⟨b3, o3 + 3, none⟩)) (by simp [go_sem, evS, g103, g92]) ⟨rfl, Below.refl _ _⟩
    · intro s W hB hfr hdep
      have g104 : s 104 = .pointer (some ⟨b3, o3 + 3, none⟩) := hdep 37 rfl
      have g92 : s 92 = .bool true := hdep 25 rfl
      refine stepG_on 25 92 true rfl rfl g92 ?_
      obtain ⟨a0, a1, a2, k0, k1, k2, hv⟩ := HR1.out.below hB
      replace k0 : W.cell? ⟨b3, o3 + 3, none⟩ = some a0 := k0
      replace k1 : W.cell? ⟨b3, o3 + 4, none⟩ = some a1 := k1
      replace k2 : W.cell? ⟨b3, o3 + 5, none⟩ = some a2 := k2
      exact op_value (.agg #[a0, a1, a2]) (by simp [go_sem, evS, g104, g92, k0, k1, k2]) ⟨hv, Below.refl _ _⟩
    · intro s W hB hfr hdep
      have g102 : DV W (s 102) (d0) := hdep 35 rfl
      have g105 : DV W (s 105) (d1) := hdep 38 rfl
      have g92 : s 92 = .bool true := hdep 25 rfl
      refine stepG_on 25 92 true rfl rfl g92 ?_
      exact op_callv 29 #[s 102, s 105] _ (by simp [go_sem, evS, g92]) (rcmp_v g102 g105 (HZ0.out.fit (by omega)) (HZ1.out.fit (by omega)) (dy_mant (d0 + -d1)).symm) (fun _ _ => rfl)
    · intro s W hB hfr hdep
      have g99 : s 99 = .int .i64 (mant (d0 + -d1)).sign := hdep 32 rfl
      have g106 : s 106 = .int .i64 (mant (d0 + -d1)).sign := hdep 39 rfl
      have g92 : s 92 = .bool true := hdep 25 rfl
      refine stepG_on 25 92 true rfl rfl g92 ?_
      exact op_value (.bool true) (by simp [go_sem, evS, g99, g106, g92]) ⟨rfl, Below.refl _ _⟩
    · intro s W hB hfr hdep
      have g92 : s 92 = .bool true := hdep 25 rfl
      have g107 : s 107 = .bool true := hdep 40 rfl
      refine stepG_plain rfl ?_
      exact op_value (.bool true) (by simp [go_sem, evS, g92, g107]) ⟨rfl, Below.refl _ _⟩
    · intro s W hB hfr hdep
      have g108 : s 108 = .bool true := hdep 41 rfl
      refine stepG_plain rfl ?_
      exact op_value _ (by simp [go_sem, evS, g108]) ⟨rfl, Below.refl _ _⟩
    · intro s W hB hfr hdep
      have g109 : s 109 = .bool true := hdep 42 rfl
      refine stepG_on 42 109 true rfl rfl g109 ?_
      exact op_callv 6 #[] _ (by simp [go_sem, evS, g109]) (awakeD_any W (HG9.out.below hB)) (fun _ _ => rfl)
    · intro s W hB hfr hdep
      have g109 : s 109 = .bool true := hdep 42 rfl
      have g110 : s 110 = .bool true := hdep 43 rfl
      refine stepG_plain rfl ?_
      exact op_value (.bool true) (by simp [go_sem, evS, g109, g110]) ⟨rfl, Below.refl _ _⟩
    · intro s W hB hfr hdep
      have g111 : s 111 = .bool true := hdep 44 rfl
      refine stepG_plain rfl ?_
      exact op_value _ (by simp [go_sem, evS, g111]) ⟨rfl, Below.refl _ _⟩
    intro s w9 hall hbl
    have f8 : s 8 = .bool true := hall 45 (by decide)
    clear hall
    have HB9 := Lib.hid (below_nx HB8.out hbl)
    clear hbl
    simp [setAll, f8]
    clear f8

    go_wp2_with fail
    go_ret
    exact ⟨rfl, HB9.out⟩

end Go.Proofs.YtbkbeglmfhaleaaGreatDoor
