/-
Rounding to the nearest, ties to even, as a plain function on natural numbers; scaling by a power of 2. Conditions: none.
-/
import Derived.Test.YtelpdbkkefpjhaaKFl
namespace Go.Proofs.Ytelpdbkkefpjhaa.Fl

theorem INF_val : INF = 9218868437227405312 := rfl
/-- n / 2^d to the nearest whole number, between two the even one. -/
def rne (n d : Nat) : Nat := n / 2 ^ d + (if 2 ^ d < 2 * (n % 2 ^ d) ∨ (2 ^ d = 2 * (n % 2 ^ d) ∧ n / 2 ^ d % 2 = 1) then 1 else 0)
/-- The rung that is nearest to N / 2^d units of 2^-1074, as if there were no greatest one. -/
def rnd (N d : Nat) : Nat := (N.log2 - (d + 52)) * 4503599627370496 + rne N (d + (N.log2 - (d + 52)))
def cap (r : Nat) : Nat := min r INF
/-- The rung that is nearest to M * 2^k units of 2^-1074. -/
def scl (M : Nat) (k : Int) : Nat := cap (if 0 ≤ k then rnd (M * 2 ^ k.toNat) 0 else rnd M (-k).toNat)
/-- The bits of a sign and a rung. -/
def wd (s : Bool) (r : Nat) : Nat := if s then 9223372036854775808 + r else r

theorem rne_zero (d : Nat) : rne 0 d = 0 := by
  unfold rne
  have : 0 < 2 ^ d := Nat.two_pow_pos d
  simp
theorem rne_d0 (n : Nat) : rne n 0 = n := by unfold rne; simp [Nat.mod_one]
theorem rne_shift (n d j : Nat) : rne (n * 2 ^ j) (d + j) = rne n d := by
  have hj : 0 < 2 ^ j := Nat.two_pow_pos j
  have e1 : n * 2 ^ j / 2 ^ (d + j) = n / 2 ^ d := by rw [Nat.pow_add]; exact Nat.mul_div_mul_right _ _ hj
  have e2 : n * 2 ^ j % 2 ^ (d + j) = n % 2 ^ d * 2 ^ j := by rw [Nat.pow_add]; exact Nat.mul_mod_mul_right _ _ _
  unfold rne
  rw [e1, e2, Nat.pow_add]
  have e3 : 2 * (n % 2 ^ d * 2 ^ j) = 2 * (n % 2 ^ d) * 2 ^ j := by rw [Nat.mul_assoc]
  rw [e3]
  have a : (2 ^ d * 2 ^ j < 2 * (n % 2 ^ d) * 2 ^ j) ↔ (2 ^ d < 2 * (n % 2 ^ d)) := Nat.mul_lt_mul_right hj
  have b : (2 ^ d * 2 ^ j = 2 * (n % 2 ^ d) * 2 ^ j) ↔ (2 ^ d = 2 * (n % 2 ^ d)) := ⟨fun h => Nat.eq_of_mul_eq_mul_right hj h, fun h => congrArg (· * 2 ^ j) h⟩
  simp only [a, b]
theorem log2_mul (n j : Nat) (h : n ≠ 0) : (n * 2 ^ j).log2 = n.log2 + j := by
  have hp : 0 < 2 ^ j := Nat.two_pow_pos j
  have hn : n * 2 ^ j ≠ 0 := Nat.mul_ne_zero h (by omega)
  refine (Nat.log2_eq_iff hn).2 ⟨?_, ?_⟩
  · rw [Nat.pow_add]; exact Nat.mul_le_mul_right _ (Nat.log2_self_le h)
  · rw [show n.log2 + j + 1 = n.log2 + 1 + j by omega, Nat.pow_add]; exact Nat.mul_lt_mul_of_pos_right Nat.lt_log2_self hp
theorem rnd_zero (d : Nat) : rnd 0 d = 0 := by unfold rnd; rw [rne_zero]; simp
theorem rnd_shift (n d j : Nat) : rnd (n * 2 ^ j) (d + j) = rnd n d := by
  by_cases h : n = 0
  · subst h; rw [Nat.zero_mul, rnd_zero, rnd_zero]
  · unfold rnd
    rw [log2_mul n j h]
    have e : n.log2 + j - (d + j + 52) = n.log2 - (d + 52) := by omega
    rw [e]
    have e2 : d + j + (n.log2 - (d + 52)) = d + (n.log2 - (d + 52)) + j := by omega
    rw [e2, rne_shift]
theorem scl_zero (k : Int) : scl 0 k = 0 := by unfold scl; simp only [Nat.zero_mul, rnd_zero]; split <;> rfl
theorem scl_shift (m u : Nat) (k : Int) : scl (m * 2 ^ u) k = scl m (u + k) := by
  unfold scl
  by_cases h1 : 0 ≤ k
  · rw [if_pos h1, if_pos (by omega), Nat.mul_assoc, ← Nat.pow_add]
    congr 4; omega
  · rw [if_neg h1]
    by_cases h2 : 0 ≤ (u : Int) + k
    · rw [if_pos h2]
      have e := rnd_shift (m * 2 ^ ((u : Int) + k).toNat) 0 (-k).toNat
      rw [Nat.mul_assoc, ← Nat.pow_add] at e
      rw [← e]
      congr 4 <;> omega
    · rw [if_neg h2]
      have e := rnd_shift m (-((u : Int) + k)).toNat u
      rw [← e]
      congr 2; omega
/-- What is rounded in the place q of a rung whose digits are m1 / 2^i. -/
theorem scl_place (m1 i q : Nat) (h1 : m1 / 2 ^ i < 9007199254740992) (h2 : 4503599627370496 ≤ m1 / 2 ^ i ∨ q = 0) : scl m1 ((q : Int) - i) = cap (q * 4503599627370496 + rne m1 i) := by
  by_cases h0 : m1 = 0
  · subst h0
    have : q = 0 := by rcases h2 with h2 | h2; · simp at h2
                       · exact h2
    subst this
    rw [scl_zero, rne_zero]; rfl
  have hb : m1.log2 < 53 + i := by
    refine (Nat.log2_lt h0).2 ?_
    rw [Nat.pow_add]
    have hp : 0 < 2 ^ i := Nat.two_pow_pos i
    exact (Nat.div_lt_iff_lt_mul hp).1 (by simpa using h1)
  have e : scl m1 ((q : Int) - i) = cap (rnd (m1 * 2 ^ q) i) := by
    have := scl_shift m1 q (-(i : Int))
    rw [show (q : Int) + -(i : Int) = q - i by omega] at this
    rw [← this]
    unfold scl
    by_cases hi : i = 0
    · subst hi; simp
    · rw [if_neg (by omega)]; congr 2; omega
  rw [e]
  refine congrArg cap ?_
  unfold rnd
  rw [log2_mul _ _ h0]
  have ht : m1.log2 + q - (i + 52) = q := by
    rcases h2 with h2 | h2
    · have hlo : 52 + i ≤ m1.log2 := by
        refine (Nat.le_log2 h0).2 ?_
        rw [Nat.pow_add]
        have hp : 0 < 2 ^ i := Nat.two_pow_pos i
        exact (Nat.le_div_iff_mul_le hp).1 (by simpa using h2)
      omega
    · omega
  rw [ht, rne_shift]
theorem scl_exact (m q : Nat) (h1 : m < 9007199254740992) (h2 : 4503599627370496 ≤ m ∨ q = 0) : scl m q = cap (q * 4503599627370496 + m) := by
  have := scl_place m 0 q (by simpa using h1) (by simpa using h2)
  rw [rne_d0] at this
  simpa using this
theorem rne_small (n d : Nat) (h : 2 * n < 2 ^ d) : rne n d = 0 := by
  unfold rne
  have hlt : n < 2 ^ d := by omega
  rw [Nat.div_eq_of_lt hlt, Nat.mod_eq_of_lt hlt, if_neg (by omega)]
theorem scl_low (m : Nat) (k : Int) (h : 2 * m < 2 ^ (-k).toNat) (hk : k < 0) : scl m k = 0 := by
  by_cases h0 : m = 0
  · subst h0; exact scl_zero k
  unfold scl
  rw [if_neg (by omega)]
  unfold rnd
  have : m.log2 < (-k).toNat := by
    refine (Nat.log2_lt h0).2 (by omega)
  rw [show m.log2 - ((-k).toNat + 52) = 0 by omega, Nat.add_zero, rne_small _ _ h]
  rfl
theorem cap_le (r : Nat) : cap r ≤ INF := Nat.min_le_right _ _
theorem scl_le (m : Nat) (k : Int) : scl m k ≤ INF := cap_le _

/-! ### A word's parts. -/
/-- The digits and the place of what a word stands for, as they are kept. -/
def pm (b : Nat) : Nat := if rung b < 4503599627370496 then rung b else 4503599627370496 + rung b % 4503599627370496
def pe (b : Nat) : Nat := if rung b < 4503599627370496 then 0 else rung b / 4503599627370496 - 1
theorem mag_parts (b : Nat) : mag (rung b) = pm b * 2 ^ pe b := by
  unfold mag pm pe; split <;> simp
theorem pm_lt (b : Nat) : pm b < 9007199254740992 := by unfold pm; split <;> omega
theorem pm_pe (b : Nat) : 4503599627370496 ≤ pm b ∨ pe b = 0 := by unfold pm pe; split <;> omega
theorem rung_parts (b : Nat) : rung b = pe b * 4503599627370496 + pm b := by unfold pm pe; split <;> omega
theorem pe_lt {b : Nat} (h : rung b < INF) : pe b ≤ 2045 := by
  have := INF_val; unfold pe; split <;> omega
theorem rung_wd (s : Bool) {r : Nat} (h : r < 9223372036854775808) : rung (wd s r) = r := by
  unfold rung wd; cases s <;> simp <;> omega
theorem wd_lt (s : Bool) {r : Nat} (h : r < 9223372036854775808) : wd s r < 18446744073709551616 := by
  unfold wd; cases s <;> simp <;> omega

/-- What Scale comes to. -/
def scale (b : Nat) (k : Int) : Nat := if rung b = 0 ∨ INF ≤ rung b then b else wd (sg b) (scl (mag (rung b)) k)
theorem scale_parts (b : Nat) (k : Int) : scl (mag (rung b)) k = scl (pm b) (pe b + k) := by rw [mag_parts, scl_shift]
theorem scale_lt {b : Nat} (h : b < 18446744073709551616) (k : Int) : scale b k < 18446744073709551616 := by
  unfold scale
  split
  · exact h
  · exact wd_lt _ (Nat.lt_of_le_of_lt (scl_le _ _) (by decide))

/-- The 53 digits of a number other than 0, and their place. -/
def dm (b : Nat) : Nat := if rung b < 4503599627370496 then rung b * 2 ^ (52 - (rung b).log2) else pm b
def de (b : Nat) : Int := if rung b < 4503599627370496 then -1074 - ((52 - (rung b).log2 : Nat) : Int) else -1074 + (pe b : Int)
theorem log_lt {r : Nat} (h0 : r ≠ 0) (h : r < 4503599627370496) : r.log2 < 52 := (Nat.log2_lt h0).2 h
theorem dm_bounds {b : Nat} (h0 : rung b ≠ 0) : 4503599627370496 ≤ dm b ∧ dm b < 9007199254740992 := by
  unfold dm
  split
  · rename_i h
    have hl := log_lt h0 h
    have h1 := Nat.log2_self_le h0
    have h2 : rung b < 2 ^ ((rung b).log2 + 1) := Nat.lt_log2_self
    have hp : 0 < 2 ^ (52 - (rung b).log2) := Nat.two_pow_pos _
    have e1 : 2 ^ (rung b).log2 * 2 ^ (52 - (rung b).log2) = 4503599627370496 := by rw [← Nat.pow_add, show (rung b).log2 + (52 - (rung b).log2) = 52 by omega]
    have e2 : 2 ^ ((rung b).log2 + 1) * 2 ^ (52 - (rung b).log2) = 9007199254740992 := by rw [← Nat.pow_add, show (rung b).log2 + 1 + (52 - (rung b).log2) = 53 by omega]
    have := Nat.mul_le_mul_right (2 ^ (52 - (rung b).log2)) h1
    have := Nat.mul_lt_mul_of_pos_right h2 hp
    omega
  · rename_i h
    have := pm_lt b
    have e : pm b = 4503599627370496 + rung b % 4503599627370496 := by unfold pm; rw [if_neg h]
    omega
theorem de_bounds {b : Nat} (h : rung b < INF) : -1126 ≤ de b ∧ de b ≤ 971 := by
  have := pe_lt h
  unfold de; split <;> omega
theorem scl_digits (b : Nat) (k : Int) : scl (mag (rung b)) k = scl (dm b) (de b + 1074 + k) := by
  unfold dm de
  split
  · rename_i h
    rw [scl_shift]
    unfold mag
    rw [if_pos h]
    congr 1; omega
  · rw [scale_parts]; congr 1; omega
theorem log_digits {b : Nat} (h0 : rung b ≠ 0) : de b + 52 = ((pm b).log2 : Int) + (pe b : Int) - 1074 := by
  unfold de
  split
  · rename_i h
    have hl := log_lt h0 h
    unfold pm pe; rw [if_pos h, if_pos h]; omega
  · rename_i h
    have : (pm b).log2 = 52 := by
      have hp := pm_lt b
      have : 4503599627370496 ≤ pm b := by unfold pm; rw [if_neg h]; omega
      exact (Nat.log2_eq_iff (by omega)).2 ⟨by omega, by omega⟩
    omega
end Go.Proofs.Ytelpdbkkefpjhaa.Fl
