/-
The numbers that the words of binary64 stand for, and how they are ordered. Conditions: none.
-/
import Derived.Laws.FloatBits
import GoSem.Core.Float
namespace Go.Proofs.Ytbeefnekblepfaa.Fl
open Ieee

/-- A word's lower 63 bits. -/
def rung (b : Nat) : Nat := b % 9223372036854775808
/-- A word's sign. -/
def sg (b : Nat) : Bool := b / 9223372036854775808 % 2 == 1
/-- The rung of infinity. -/
def INF : Nat := 9218868437227405312
/-- How great a rung is, in units of 2^-1074. -/
def mag (r : Nat) : Nat := if r < 4503599627370496 then r else (4503599627370496 + r % 4503599627370496) * 2 ^ (r / 4503599627370496 - 1)
/-- A word's number, in units of 2^-1074 (infinity as if it were one). -/
def val (b : Nat) : Int := if sg b then -(mag (rung b) : Int) else (mag (rung b) : Int)
/-- A word's place among all. -/
def key (b : Nat) : Int := if sg b then -(rung b : Int) else (rung b : Int)
def nan (b : Nat) : Bool := decide (INF < rung b)
def fin (b : Nat) : Bool := decide (rung b < INF)

theorem mag_zero : mag 0 = 0 := by simp [mag]
theorem mag_succ (r : Nat) : mag r < mag (r + 1) := by
  unfold mag
  by_cases h1 : r + 1 < 4503599627370496
  · rw [if_pos (by omega), if_pos h1]; omega
  · by_cases h2 : r + 1 = 4503599627370496
    · obtain rfl : r = 4503599627370495 := by omega
      decide
    · rw [if_neg (by omega), if_neg h1]
      have hq : r / 4503599627370496 - 1 + 1 = r / 4503599627370496 := by omega
      generalize hQ : r / 4503599627370496 - 1 = q at *
      have hp : 0 < 2 ^ q := Nat.two_pow_pos q
      by_cases h3 : r % 4503599627370496 + 1 < 4503599627370496
      · have e1 : (r + 1) / 4503599627370496 - 1 = q := by omega
        have e2 : (r + 1) % 4503599627370496 = r % 4503599627370496 + 1 := by omega
        rw [e1, e2]
        exact Nat.mul_lt_mul_of_pos_right (by omega) hp
      · have e1 : (r + 1) / 4503599627370496 - 1 = q + 1 := by omega
        have e2 : (r + 1) % 4503599627370496 = 0 := by omega
        have e3 : r % 4503599627370496 = 4503599627370495 := by omega
        rw [e1, e2, e3, Nat.pow_succ]
        omega
theorem mag_lt {r s : Nat} (h : r < s) : mag r < mag s := by
  induction s with
  | zero => omega
  | succ s ih =>
    by_cases e : r = s
    · subst e; exact mag_succ r
    · exact Nat.lt_trans (ih (by omega)) (mag_succ s)
theorem mag_lt_iff (r s : Nat) : mag r < mag s ↔ r < s := by
  constructor
  · intro h
    rcases Nat.lt_trichotomy r s with h1 | h1 | h1
    · exact h1
    · subst h1; omega
    · have := mag_lt h1; omega
  · exact mag_lt
theorem mag_inj {r s : Nat} (h : mag r = mag s) : r = s := by
  rcases Nat.lt_trichotomy r s with h1 | h1 | h1
  · have := mag_lt h1; omega
  · exact h1
  · have := mag_lt h1; omega
theorem mag_le_iff (r s : Nat) : mag r ≤ mag s ↔ r ≤ s := by
  have := mag_lt_iff s r; omega

theorem read_eq (b : Nat) : double.read b =
    if rung b < 4503599627370496 then .number (sg b) (rung b) (-1074)
    else if rung b < INF then .number (sg b) (4503599627370496 + rung b % 4503599627370496) (-1074 + (rung b / 4503599627370496 - 1 : Nat))
    else if rung b = INF then .infinity (sg b) else .nan (sg b) (rung b - INF) := rfl

/-- A finite word stands for a number whose digits and place make its value. -/
theorem read_fin {b : Nat} (h : rung b < INF) : ∃ m : Nat, ∃ u : Nat, double.read b = .number (sg b) m (-1074 + (u : Int)) ∧ m * 2 ^ u = mag (rung b) := by
  rw [read_eq]
  unfold mag
  by_cases h1 : rung b < 4503599627370496
  · rw [if_pos h1, if_pos h1]; exact ⟨rung b, 0, rfl, by simp⟩
  · rw [if_neg h1, if_pos h, if_neg h1]; exact ⟨_, _, rfl, rfl⟩
theorem read_inf {b : Nat} (h : rung b = INF) : double.read b = .infinity (sg b) := by
  rw [read_eq, h]; rfl
theorem read_nan {b : Nat} (h : INF < rung b) : double.read b = .nan (sg b) (rung b - INF) := by
  have : INF = 9218868437227405312 := rfl
  rw [read_eq, if_neg (by omega), if_neg (by omega), if_neg (by omega)]

theorem compare_scale (a b c : Int) (hc : 0 < c) : compare (a * c) (b * c) = compare a b := by
  simp only [compare, compareOfLessAndEq, Int.mul_lt_mul_right hc]
  have : a * c = b * c ↔ a = b := ⟨fun h => Int.eq_of_mul_eq_mul_right (by omega) h, fun h => by rw [h]⟩
  simp only [this]
theorem signed_pow (s : Bool) (m u v : Nat) : signed s m u * (2 ^ v : Nat) = signed s m (u + v) := by
  unfold signed
  have : m <<< (u + v) = m <<< u * 2 ^ v := by simp only [Nat.shiftLeft_eq]; rw [Nat.pow_add, Nat.mul_assoc]
  split
  · rw [this, Int.natCast_mul, Int.neg_mul]
  · rw [this, Int.natCast_mul]
theorem order_number (s t : Bool) (m n u v : Nat) : Datum.order (.number s m (-1074 + (u : Int))) (.number t n (-1074 + (v : Int))) = some (compare (signed s m u) (signed t n v)) := by
  simp only [Datum.order]
  congr 1
  have h : 0 < ((2 ^ min u v : Nat) : Int) := by have := Nat.two_pow_pos (min u v); omega
  rw [← compare_scale _ _ _ h, signed_pow, signed_pow]
  have e1 : (-1074 + (u : Int) - min (-1074 + (u : Int)) (-1074 + (v : Int))).toNat + min u v = u := by omega
  have e2 : (-1074 + (v : Int) - min (-1074 + (u : Int)) (-1074 + (v : Int))).toNat + min u v = v := by omega
  rw [e1, e2]
theorem signed_val {s : Bool} {m u M : Nat} (h : m * 2 ^ u = M) : signed s m u = if s then -(M : Int) else (M : Int) := by
  unfold signed
  rw [Nat.shiftLeft_eq, h]

theorem order_val {x y : Nat} (hx : rung x ≤ INF) (hy : rung y ≤ INF) : double.order x y = some (compare (val x) (val y)) := by
  unfold Format.order val
  by_cases h1 : rung x = INF
  · rw [read_inf h1]
    by_cases h2 : rung y = INF
    · rw [read_inf h2, h1, h2]
      cases sg x <;> cases sg y <;> decide +kernel
    · obtain ⟨n, v, e, hm⟩ := read_fin (b := y) (by omega)
      have hl : mag (rung y) < mag (rung x) := mag_lt (by omega)
      rw [e]
      cases sg x <;> cases sg y <;> simp only [Datum.order, compare, compareOfLessAndEq] <;> simp <;> (repeat' split) <;> first | rfl | omega
  · obtain ⟨m, u, e, hm⟩ := read_fin (b := x) (by omega)
    rw [e]
    by_cases h2 : rung y = INF
    · rw [read_inf h2]
      have hl : mag (rung x) < mag (rung y) := mag_lt (by omega)
      cases sg x <;> cases sg y <;> simp only [Datum.order, compare, compareOfLessAndEq] <;> simp <;> (repeat' split) <;> first | rfl | omega
    · obtain ⟨n, v, e2, hn⟩ := read_fin (b := y) (by omega)
      rw [e2, order_number, signed_val hm, signed_val hn]
theorem order_nan_left {x y : Nat} (hx : INF < rung x) : double.order x y = none := by
  unfold Format.order; rw [read_nan hx]; cases double.read y <;> rfl
theorem order_nan_right {x y : Nat} (hy : INF < rung y) : double.order x y = none := by
  unfold Format.order; rw [read_nan hy]; cases double.read x <;> rfl

theorem val_lt_iff (x y : Nat) : val x < val y ↔ key x < key y := by
  unfold val key
  have h1 := mag_lt_iff (rung x) (rung y)
  have h2 := mag_lt_iff (rung y) (rung x)
  have h3 := mag_lt_iff 0 (rung x)
  have h4 := mag_lt_iff 0 (rung y)
  rw [mag_zero] at h3 h4
  cases sg x <;> cases sg y <;> simp <;> omega
theorem val_eq_iff (x y : Nat) : val x = val y ↔ key x = key y := by
  have := val_lt_iff x y; have := val_lt_iff y x; omega
theorem order_key {x y : Nat} (hx : rung x ≤ INF) (hy : rung y ≤ INF) : double.order x y = some (compare (key x) (key y)) := by
  rw [order_val hx hy]
  simp only [compare, compareOfLessAndEq, val_lt_iff, val_eq_iff]

theorem cmp_lt (a b : Int) : (compare a b = .lt) ↔ a < b := by
  simp only [compare, compareOfLessAndEq]; split
  · simp_all
  · split <;> simp_all
theorem cmp_eq (a b : Int) : (compare a b = .eq) ↔ a = b := by
  simp only [compare, compareOfLessAndEq]; split
  · simp_all; omega
  · split <;> simp_all
theorem cmp_gt (a b : Int) : (compare a b = .gt) ↔ b < a := by
  simp only [compare, compareOfLessAndEq]; split
  · simp_all; omega
  · split <;> simp_all; omega

/-! The comparisons of two words, as the walk spells them. -/
theorem eql_of {x y : Nat} (hx : rung x ≤ INF) (hy : rung y ≤ INF) : (FloatKind.f64.format.order x y == some .eq) = decide (key x = key y) := by
  show (double.order x y == some .eq) = _
  rw [order_key hx hy, Bool.eq_iff_iff]; simp
theorem lss_of {x y : Nat} (hx : rung x ≤ INF) (hy : rung y ≤ INF) : (FloatKind.f64.format.order x y == some .lt) = decide (key x < key y) := by
  show (double.order x y == some .lt) = _
  rw [order_key hx hy, Bool.eq_iff_iff]; simp [cmp_lt]
theorem gtr_of {x y : Nat} (hx : rung x ≤ INF) (hy : rung y ≤ INF) : (FloatKind.f64.format.order x y == some .gt) = decide (key y < key x) := by
  show (double.order x y == some .gt) = _
  rw [order_key hx hy, Bool.eq_iff_iff]; simp [cmp_gt]
theorem cmp_nan {x y : Nat} (h : INF < rung x ∨ INF < rung y) (o : Ordering) : (FloatKind.f64.format.order x y == some o) = false := by
  show (double.order x y == some o) = _
  rcases h with h | h
  · rw [order_nan_left h]; rfl
  · rw [order_nan_right h]; rfl
end Go.Proofs.Ytbeefnekblepfaa.Fl
/-
Rounding to the nearest, ties to even, as a plain function on natural numbers; scaling by a power of 2. Conditions: none.
-/
namespace Go.Proofs.Ytbeefnekblepfaa.Fl

theorem INF_val : INF = 9218868437227405312 := rfl
/-- n / 2^d to the nearest whole number, between two the even one. -/
def rne (n d : Nat) : Nat := n / 2 ^ d + (if 2 ^ d < 2 * (n % 2 ^ d) ∨ (2 ^ d = 2 * (n % 2 ^ d) ∧ n / 2 ^ d % 2 = 1) then 1 else 0)
/-- The rung that is nearest to N / 2^d units of 2^-1074, as if there were no greatest one. -/
def rnd (N d : Nat) : Nat := (N.log2 - (d + 52)) * 4503599627370496 + rne N (d + (N.log2 - (d + 52)))
def cap (r : Nat) : Nat := min r INF
/-- The rung that is nearest to M * 2^k units of 2^-1074. -/
def scl (M : Nat) (k : Int) : Nat := cap (if 0 ≤ k then rnd (M * 2 ^ k.toNat) 0 else rnd M (-k).toNat)
/-- The bits of a sign and a rung. -/
def wd (s : Bool) (r : Nat) : Nat := if s then 9223372036854775808 + r else r

theorem rne_zero (d : Nat) : rne 0 d = 0 := by
  unfold rne
  have : 0 < 2 ^ d := Nat.two_pow_pos d
  simp
theorem rne_d0 (n : Nat) : rne n 0 = n := by unfold rne; simp [Nat.mod_one]
theorem rne_shift (n d j : Nat) : rne (n * 2 ^ j) (d + j) = rne n d := by
  have hj : 0 < 2 ^ j := Nat.two_pow_pos j
  have e1 : n * 2 ^ j / 2 ^ (d + j) = n / 2 ^ d := by rw [Nat.pow_add]; exact Nat.mul_div_mul_right _ _ hj
  have e2 : n * 2 ^ j % 2 ^ (d + j) = n % 2 ^ d * 2 ^ j := by rw [Nat.pow_add]; exact Nat.mul_mod_mul_right _ _ _
  unfold rne
  rw [e1, e2, Nat.pow_add]
  have e3 : 2 * (n % 2 ^ d * 2 ^ j) = 2 * (n % 2 ^ d) * 2 ^ j := by rw [Nat.mul_assoc]
  rw [e3]
  have a : (2 ^ d * 2 ^ j < 2 * (n % 2 ^ d) * 2 ^ j) ↔ (2 ^ d < 2 * (n % 2 ^ d)) := Nat.mul_lt_mul_right hj
  have b : (2 ^ d * 2 ^ j = 2 * (n % 2 ^ d) * 2 ^ j) ↔ (2 ^ d = 2 * (n % 2 ^ d)) := ⟨fun h => Nat.eq_of_mul_eq_mul_right hj h, fun h => congrArg (· * 2 ^ j) h⟩
  simp only [a, b]
theorem rne_mul (n j : Nat) : rne (n * 2 ^ j) j = n := by
  have := rne_shift n 0 j
  rw [Nat.zero_add] at this
  rw [this, rne_d0]
theorem log2_mul (n j : Nat) (h : n ≠ 0) : (n * 2 ^ j).log2 = n.log2 + j := by
  have hp : 0 < 2 ^ j := Nat.two_pow_pos j
  have hn : n * 2 ^ j ≠ 0 := Nat.mul_ne_zero h (by omega)
  refine (Nat.log2_eq_iff hn).2 ⟨?_, ?_⟩
  · rw [Nat.pow_add]; exact Nat.mul_le_mul_right _ (Nat.log2_self_le h)
  · rw [show n.log2 + j + 1 = n.log2 + 1 + j by omega, Nat.pow_add]; exact Nat.mul_lt_mul_of_pos_right Nat.lt_log2_self hp
theorem rnd_zero (d : Nat) : rnd 0 d = 0 := by unfold rnd; rw [rne_zero]; simp
theorem rnd_shift (n d j : Nat) : rnd (n * 2 ^ j) (d + j) = rnd n d := by
  by_cases h : n = 0
  · subst h; rw [Nat.zero_mul, rnd_zero, rnd_zero]
  · unfold rnd
    rw [log2_mul n j h]
    have e : n.log2 + j - (d + j + 52) = n.log2 - (d + 52) := by omega
    rw [e]
    have e2 : d + j + (n.log2 - (d + 52)) = d + (n.log2 - (d + 52)) + j := by omega
    rw [e2, rne_shift]
theorem scl_zero (k : Int) : scl 0 k = 0 := by unfold scl; simp only [Nat.zero_mul, rnd_zero]; split <;> rfl
theorem scl_shift (m u : Nat) (k : Int) : scl (m * 2 ^ u) k = scl m (u + k) := by
  unfold scl
  by_cases h1 : 0 ≤ k
  · rw [if_pos h1, if_pos (by omega), Nat.mul_assoc, ← Nat.pow_add]
    congr 4; omega
  · rw [if_neg h1]
    by_cases h2 : 0 ≤ (u : Int) + k
    · rw [if_pos h2]
      have e := rnd_shift (m * 2 ^ ((u : Int) + k).toNat) 0 (-k).toNat
      rw [Nat.mul_assoc, ← Nat.pow_add] at e
      rw [← e]
      congr 4 <;> omega
    · rw [if_neg h2]
      have e := rnd_shift m (-((u : Int) + k)).toNat u
      rw [← e]
      congr 2; omega
/-- What is rounded in the place q of a rung whose digits are m1 / 2^i. -/
theorem scl_place (m1 i q : Nat) (h1 : m1 / 2 ^ i < 9007199254740992) (h2 : 4503599627370496 ≤ m1 / 2 ^ i ∨ q = 0) : scl m1 ((q : Int) - i) = cap (q * 4503599627370496 + rne m1 i) := by
  by_cases h0 : m1 = 0
  · subst h0
    have : q = 0 := by rcases h2 with h2 | h2; · simp at h2
                       · exact h2
    subst this
    rw [scl_zero, rne_zero]; rfl
  have hb : m1.log2 < 53 + i := by
    refine (Nat.log2_lt h0).2 ?_
    rw [Nat.pow_add]
    have hp : 0 < 2 ^ i := Nat.two_pow_pos i
    exact (Nat.div_lt_iff_lt_mul hp).1 (by simpa using h1)
  have e : scl m1 ((q : Int) - i) = cap (rnd (m1 * 2 ^ q) i) := by
    have := scl_shift m1 q (-(i : Int))
    rw [show (q : Int) + -(i : Int) = q - i by omega] at this
    rw [← this]
    unfold scl
    by_cases hi : i = 0
    · subst hi; simp
    · rw [if_neg (by omega)]; congr 2; omega
  rw [e]
  refine congrArg cap ?_
  unfold rnd
  rw [log2_mul _ _ h0]
  have ht : m1.log2 + q - (i + 52) = q := by
    rcases h2 with h2 | h2
    · have hlo : 52 + i ≤ m1.log2 := by
        refine (Nat.le_log2 h0).2 ?_
        rw [Nat.pow_add]
        have hp : 0 < 2 ^ i := Nat.two_pow_pos i
        exact (Nat.le_div_iff_mul_le hp).1 (by simpa using h2)
      omega
    · omega
  rw [ht, rne_shift]
theorem scl_exact (m q : Nat) (h1 : m < 9007199254740992) (h2 : 4503599627370496 ≤ m ∨ q = 0) : scl m q = cap (q * 4503599627370496 + m) := by
  have := scl_place m 0 q (by simpa using h1) (by simpa using h2)
  rw [rne_d0] at this
  simpa using this
theorem scl_exact' (m q : Nat) (h1 : m ≤ 9007199254740992) (h2 : 4503599627370496 ≤ m ∨ q = 0) : scl m q = cap (q * 4503599627370496 + m) := by
  by_cases h : m = 9007199254740992
  · subst h
    have := scl_shift 4503599627370496 1 (q : Int)
    rw [show (4503599627370496 * 2 ^ 1 : Nat) = 9007199254740992 from rfl] at this
    rw [this, show ((1 : Nat) : Int) + (q : Int) = ((q + 1 : Nat) : Int) by omega, scl_exact _ _ (by omega) (by omega)]
    refine congrArg cap ?_
    omega
  · exact scl_exact m q (by omega) h2
theorem rne_small (n d : Nat) (h : 2 * n < 2 ^ d) : rne n d = 0 := by
  unfold rne
  have hlt : n < 2 ^ d := by omega
  rw [Nat.div_eq_of_lt hlt, Nat.mod_eq_of_lt hlt, if_neg (by omega)]
theorem scl_low (m : Nat) (k : Int) (h : 2 * m < 2 ^ (-k).toNat) (hk : k < 0) : scl m k = 0 := by
  by_cases h0 : m = 0
  · subst h0; exact scl_zero k
  unfold scl
  rw [if_neg (by omega)]
  unfold rnd
  have : m.log2 < (-k).toNat := by
    refine (Nat.log2_lt h0).2 (by omega)
  rw [show m.log2 - ((-k).toNat + 52) = 0 by omega, Nat.add_zero, rne_small _ _ h]
  rfl
theorem scl_high (m : Nat) (k : Int) (h0 : m ≠ 0) (hk : 2098 ≤ k) : scl m k = INF := by
  unfold scl
  rw [if_pos (by omega)]
  unfold rnd cap
  rw [log2_mul _ _ h0]
  have := INF_val
  have : 2046 ≤ m.log2 + k.toNat - (0 + 52) := by omega
  generalize m.log2 + k.toNat - (0 + 52) = t at *
  have : 4503599627370496 ≤ rne (m * 2 ^ k.toNat) (0 + t) ∨ 2047 ≤ t := by
    by_cases ht : 2047 ≤ t
    · exact .inr ht
    · refine .inl ?_
      have ht' : t ≤ k.toNat := by omega
      have e : m * 2 ^ k.toNat = m * 2 ^ (k.toNat - t) * 2 ^ t := by rw [Nat.mul_assoc, ← Nat.pow_add]; congr 2; omega
      rw [Nat.zero_add, e, rne_mul]
      have : 2 ^ 52 ≤ 2 ^ (k.toNat - t) := Nat.pow_le_pow_right (by omega) (by omega)
      have : 1 * 2 ^ (k.toNat - t) ≤ m * 2 ^ (k.toNat - t) := Nat.mul_le_mul_right _ (by omega)
      omega
  omega
theorem cap_le (r : Nat) : cap r ≤ INF := Nat.min_le_right _ _
theorem scl_le (m : Nat) (k : Int) : scl m k ≤ INF := cap_le _

/-! ### A word's parts. -/
/-- The digits and the place of what a word stands for, as they are kept. -/
def pm (b : Nat) : Nat := if rung b < 4503599627370496 then rung b else 4503599627370496 + rung b % 4503599627370496
def pe (b : Nat) : Nat := if rung b < 4503599627370496 then 0 else rung b / 4503599627370496 - 1
theorem mag_parts (b : Nat) : mag (rung b) = pm b * 2 ^ pe b := by
  unfold mag pm pe; split <;> simp
theorem pm_lt (b : Nat) : pm b < 9007199254740992 := by unfold pm; split <;> omega
theorem pm_pe (b : Nat) : 4503599627370496 ≤ pm b ∨ pe b = 0 := by unfold pm pe; split <;> omega
theorem rung_parts (b : Nat) : rung b = pe b * 4503599627370496 + pm b := by unfold pm pe; split <;> omega
theorem pe_lt {b : Nat} (h : rung b < INF) : pe b ≤ 2045 := by
  have := INF_val; unfold pe; split <;> omega
theorem rung_lt (b : Nat) : rung b < 9223372036854775808 := Nat.mod_lt _ (by omega)
theorem wd_parts {b : Nat} (h : b < 18446744073709551616) : wd (sg b) (rung b) = b := by
  unfold wd sg rung
  by_cases h1 : b / 9223372036854775808 % 2 = 1
  · simp [h1]; omega
  · simp [h1]; omega
theorem sg_wd (s : Bool) {r : Nat} (h : r < 9223372036854775808) : sg (wd s r) = s := by
  unfold sg wd; cases s <;> simp <;> omega
theorem rung_wd (s : Bool) {r : Nat} (h : r < 9223372036854775808) : rung (wd s r) = r := by
  unfold rung wd; cases s <;> simp <;> omega
theorem wd_lt (s : Bool) {r : Nat} (h : r < 9223372036854775808) : wd s r < 18446744073709551616 := by
  unfold wd; cases s <;> simp <;> omega

/-- What Scale comes to. -/
def scale (b : Nat) (k : Int) : Nat := if rung b = 0 ∨ INF ≤ rung b then b else wd (sg b) (scl (mag (rung b)) k)
theorem scale_parts (b : Nat) (k : Int) : scl (mag (rung b)) k = scl (pm b) (pe b + k) := by rw [mag_parts, scl_shift]
theorem scale_lt {b : Nat} (h : b < 18446744073709551616) (k : Int) : scale b k < 18446744073709551616 := by
  unfold scale
  split
  · exact h
  · exact wd_lt _ (Nat.lt_of_le_of_lt (scl_le _ _) (by decide))

/-- The 53 digits of a number other than 0, and their place. -/
def dm (b : Nat) : Nat := if rung b < 4503599627370496 then rung b * 2 ^ (52 - (rung b).log2) else pm b
def de (b : Nat) : Int := if rung b < 4503599627370496 then -1074 - ((52 - (rung b).log2 : Nat) : Int) else -1074 + (pe b : Int)
theorem log_lt {r : Nat} (h0 : r ≠ 0) (h : r < 4503599627370496) : r.log2 < 52 := (Nat.log2_lt h0).2 h
theorem dm_bounds {b : Nat} (h0 : rung b ≠ 0) : 4503599627370496 ≤ dm b ∧ dm b < 9007199254740992 := by
  unfold dm
  split
  · rename_i h
    have hl := log_lt h0 h
    have h1 := Nat.log2_self_le h0
    have h2 : rung b < 2 ^ ((rung b).log2 + 1) := Nat.lt_log2_self
    have hp : 0 < 2 ^ (52 - (rung b).log2) := Nat.two_pow_pos _
    have e1 : 2 ^ (rung b).log2 * 2 ^ (52 - (rung b).log2) = 4503599627370496 := by rw [← Nat.pow_add, show (rung b).log2 + (52 - (rung b).log2) = 52 by omega]
    have e2 : 2 ^ ((rung b).log2 + 1) * 2 ^ (52 - (rung b).log2) = 9007199254740992 := by rw [← Nat.pow_add, show (rung b).log2 + 1 + (52 - (rung b).log2) = 53 by omega]
    have := Nat.mul_le_mul_right (2 ^ (52 - (rung b).log2)) h1
    have := Nat.mul_lt_mul_of_pos_right h2 hp
    omega
  · rename_i h
    have := pm_lt b
    have e : pm b = 4503599627370496 + rung b % 4503599627370496 := by unfold pm; rw [if_neg h]
    omega
theorem de_bounds {b : Nat} (h : rung b < INF) : -1126 ≤ de b ∧ de b ≤ 971 := by
  have := pe_lt h
  unfold de; split <;> omega
theorem scl_digits (b : Nat) (k : Int) : scl (mag (rung b)) k = scl (dm b) (de b + 1074 + k) := by
  unfold dm de
  split
  · rename_i h
    rw [scl_shift]
    unfold mag
    rw [if_pos h]
    congr 1; omega
  · rw [scale_parts]; congr 1; omega
theorem log_digits {b : Nat} (h0 : rung b ≠ 0) : de b + 52 = ((pm b).log2 : Int) + (pe b : Int) - 1074 := by
  unfold de
  split
  · rename_i h
    have hl := log_lt h0 h
    unfold pm pe; rw [if_pos h, if_pos h]; omega
  · rename_i h
    have : (pm b).log2 = 52 := by
      have hp := pm_lt b
      have : 4503599627370496 ≤ pm b := by unfold pm; rw [if_neg h]; omega
      exact (Nat.log2_eq_iff (by omega)).2 ⟨by omega, by omega⟩
    omega
end Go.Proofs.Ytbeefnekblepfaa.Fl
