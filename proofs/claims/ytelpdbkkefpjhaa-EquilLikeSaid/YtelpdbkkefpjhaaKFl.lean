/-
The numbers that the words of binary64 stand for, and how they are ordered. Conditions: none.
-/
import Derived.Laws.FloatBits
import GoSem.Core.Float
namespace Go.Proofs.Ytelpdbkkefpjhaa.Fl
open Ieee

/-- A word's lower 63 bits. -/
def rung (b : Nat) : Nat := b % 9223372036854775808
/-- A word's sign. -/
def sg (b : Nat) : Bool := b / 9223372036854775808 % 2 == 1
/-- The rung of infinity. -/
def INF : Nat := 9218868437227405312
/-- How great a rung is, in units of 2^-1074. -/
def mag (r : Nat) : Nat := if r < 4503599627370496 then r else (4503599627370496 + r % 4503599627370496) * 2 ^ (r / 4503599627370496 - 1)
/-- A word's number, in units of 2^-1074 (infinity as if it were one). -/
def val (b : Nat) : Int := if sg b then -(mag (rung b) : Int) else (mag (rung b) : Int)
/-- A word's place among all. -/
def key (b : Nat) : Int := if sg b then -(rung b : Int) else (rung b : Int)
def nan (b : Nat) : Bool := decide (INF < rung b)
def fin (b : Nat) : Bool := decide (rung b < INF)

theorem mag_zero : mag 0 = 0 := by simp [mag]
theorem mag_succ (r : Nat) : mag r < mag (r + 1) := by
  unfold mag
  by_cases h1 : r + 1 < 4503599627370496
  · rw [if_pos (by omega), if_pos h1]; omega
  · by_cases h2 : r + 1 = 4503599627370496
    · obtain rfl : r = 4503599627370495 := by omega
      decide
    · rw [if_neg (by omega), if_neg h1]
      have hq : r / 4503599627370496 - 1 + 1 = r / 4503599627370496 := by omega
      generalize hQ : r / 4503599627370496 - 1 = q at *
      have hp : 0 < 2 ^ q := Nat.two_pow_pos q
      by_cases h3 : r % 4503599627370496 + 1 < 4503599627370496
      · have e1 : (r + 1) / 4503599627370496 - 1 = q := by omega
        have e2 : (r + 1) % 4503599627370496 = r % 4503599627370496 + 1 := by omega
        rw [e1, e2]
        exact Nat.mul_lt_mul_of_pos_right (by omega) hp
      · have e1 : (r + 1) / 4503599627370496 - 1 = q + 1 := by omega
        have e2 : (r + 1) % 4503599627370496 = 0 := by omega
        have e3 : r % 4503599627370496 = 4503599627370495 := by omega
        rw [e1, e2, e3, Nat.pow_succ]
        omega
theorem mag_lt {r s : Nat} (h : r < s) : mag r < mag s := by
  induction s with
  | zero => omega
  | succ s ih =>
    by_cases e : r = s
    · subst e; exact mag_succ r
    · exact Nat.lt_trans (ih (by omega)) (mag_succ s)
theorem mag_lt_iff (r s : Nat) : mag r < mag s ↔ r < s := by
  constructor
  · intro h
    rcases Nat.lt_trichotomy r s with h1 | h1 | h1
    · exact h1
    · subst h1; omega
    · have := mag_lt h1; omega
  · exact mag_lt
theorem read_eq (b : Nat) : double.read b =
    if rung b < 4503599627370496 then .number (sg b) (rung b) (-1074)
    else if rung b < INF then .number (sg b) (4503599627370496 + rung b % 4503599627370496) (-1074 + (rung b / 4503599627370496 - 1 : Nat))
    else if rung b = INF then .infinity (sg b) else .nan (sg b) (rung b - INF) := rfl

/-- A finite word stands for a number whose digits and place make its value. -/
theorem read_fin {b : Nat} (h : rung b < INF) : ∃ m : Nat, ∃ u : Nat, double.read b = .number (sg b) m (-1074 + (u : Int)) ∧ m * 2 ^ u = mag (rung b) := by
  rw [read_eq]
  unfold mag
  by_cases h1 : rung b < 4503599627370496
  · rw [if_pos h1, if_pos h1]; exact ⟨rung b, 0, rfl, by simp⟩
  · rw [if_neg h1, if_pos h, if_neg h1]; exact ⟨_, _, rfl, rfl⟩
theorem read_inf {b : Nat} (h : rung b = INF) : double.read b = .infinity (sg b) := by
  rw [read_eq, h]; rfl
theorem read_nan {b : Nat} (h : INF < rung b) : double.read b = .nan (sg b) (rung b - INF) := by
  have : INF = 9218868437227405312 := rfl
  rw [read_eq, if_neg (by omega), if_neg (by omega), if_neg (by omega)]

theorem compare_scale (a b c : Int) (hc : 0 < c) : compare (a * c) (b * c) = compare a b := by
  simp only [compare, compareOfLessAndEq, Int.mul_lt_mul_right hc]
  have : a * c = b * c ↔ a = b := ⟨fun h => Int.eq_of_mul_eq_mul_right (by omega) h, fun h => by rw [h]⟩
  simp only [this]
theorem signed_pow (s : Bool) (m u v : Nat) : signed s m u * (2 ^ v : Nat) = signed s m (u + v) := by
  unfold signed
  have : m <<< (u + v) = m <<< u * 2 ^ v := by simp only [Nat.shiftLeft_eq]; rw [Nat.pow_add, Nat.mul_assoc]
  split
  · rw [this, Int.natCast_mul, Int.neg_mul]
  · rw [this, Int.natCast_mul]
theorem order_number (s t : Bool) (m n u v : Nat) : Datum.order (.number s m (-1074 + (u : Int))) (.number t n (-1074 + (v : Int))) = some (compare (signed s m u) (signed t n v)) := by
  simp only [Datum.order]
  congr 1
  have h : 0 < ((2 ^ min u v : Nat) : Int) := by have := Nat.two_pow_pos (min u v); omega
  rw [← compare_scale _ _ _ h, signed_pow, signed_pow]
  have e1 : (-1074 + (u : Int) - min (-1074 + (u : Int)) (-1074 + (v : Int))).toNat + min u v = u := by omega
  have e2 : (-1074 + (v : Int) - min (-1074 + (u : Int)) (-1074 + (v : Int))).toNat + min u v = v := by omega
  rw [e1, e2]
theorem signed_val {s : Bool} {m u M : Nat} (h : m * 2 ^ u = M) : signed s m u = if s then -(M : Int) else (M : Int) := by
  unfold signed
  rw [Nat.shiftLeft_eq, h]

theorem order_val {x y : Nat} (hx : rung x ≤ INF) (hy : rung y ≤ INF) : double.order x y = some (compare (val x) (val y)) := by
  unfold Format.order val
  by_cases h1 : rung x = INF
  · rw [read_inf h1]
    by_cases h2 : rung y = INF
    · rw [read_inf h2, h1, h2]
      cases sg x <;> cases sg y <;> decide +kernel
    · obtain ⟨n, v, e, hm⟩ := read_fin (b := y) (by omega)
      have hl : mag (rung y) < mag (rung x) := mag_lt (by omega)
      rw [e]
      cases sg x <;> cases sg y <;> simp only [Datum.order, compare, compareOfLessAndEq] <;> simp <;> (repeat' split) <;> first | rfl | omega
  · obtain ⟨m, u, e, hm⟩ := read_fin (b := x) (by omega)
    rw [e]
    by_cases h2 : rung y = INF
    · rw [read_inf h2]
      have hl : mag (rung x) < mag (rung y) := mag_lt (by omega)
      cases sg x <;> cases sg y <;> simp only [Datum.order, compare, compareOfLessAndEq] <;> simp <;> (repeat' split) <;> first | rfl | omega
    · obtain ⟨n, v, e2, hn⟩ := read_fin (b := y) (by omega)
      rw [e2, order_number, signed_val hm, signed_val hn]
theorem order_nan_left {x y : Nat} (hx : INF < rung x) : double.order x y = none := by
  unfold Format.order; rw [read_nan hx]; cases double.read y <;> rfl
theorem order_nan_right {x y : Nat} (hy : INF < rung y) : double.order x y = none := by
  unfold Format.order; rw [read_nan hy]; cases double.read x <;> rfl

theorem val_lt_iff (x y : Nat) : val x < val y ↔ key x < key y := by
  unfold val key
  have h1 := mag_lt_iff (rung x) (rung y)
  have h2 := mag_lt_iff (rung y) (rung x)
  have h3 := mag_lt_iff 0 (rung x)
  have h4 := mag_lt_iff 0 (rung y)
  rw [mag_zero] at h3 h4
  cases sg x <;> cases sg y <;> simp <;> omega
theorem val_eq_iff (x y : Nat) : val x = val y ↔ key x = key y := by
  have := val_lt_iff x y; have := val_lt_iff y x; omega
theorem order_key {x y : Nat} (hx : rung x ≤ INF) (hy : rung y ≤ INF) : double.order x y = some (compare (key x) (key y)) := by
  rw [order_val hx hy]
  simp only [compare, compareOfLessAndEq, val_lt_iff, val_eq_iff]

theorem cmp_lt (a b : Int) : (compare a b = .lt) ↔ a < b := by
  simp only [compare, compareOfLessAndEq]; split
  · simp_all
  · split <;> simp_all
theorem cmp_gt (a b : Int) : (compare a b = .gt) ↔ b < a := by
  simp only [compare, compareOfLessAndEq]; split
  · simp_all; omega
  · split <;> simp_all; omega

/-! The comparisons of two words, as the walk spells them. -/
theorem eql_of {x y : Nat} (hx : rung x ≤ INF) (hy : rung y ≤ INF) : (FloatKind.f64.format.order x y == some .eq) = decide (key x = key y) := by
  show (double.order x y == some .eq) = _
  rw [order_key hx hy, Bool.eq_iff_iff]; simp
theorem lss_of {x y : Nat} (hx : rung x ≤ INF) (hy : rung y ≤ INF) : (FloatKind.f64.format.order x y == some .lt) = decide (key x < key y) := by
  show (double.order x y == some .lt) = _
  rw [order_key hx hy, Bool.eq_iff_iff]; simp [cmp_lt]
theorem gtr_of {x y : Nat} (hx : rung x ≤ INF) (hy : rung y ≤ INF) : (FloatKind.f64.format.order x y == some .gt) = decide (key y < key x) := by
  show (double.order x y == some .gt) = _
  rw [order_key hx hy, Bool.eq_iff_iff]; simp [cmp_gt]
theorem cmp_nan {x y : Nat} (h : INF < rung x ∨ INF < rung y) (o : Ordering) : (FloatKind.f64.format.order x y == some o) = false := by
  show (double.order x y == some o) = _
  rcases h with h | h
  · rw [order_nan_left h]; rfl
  · rw [order_nan_right h]; rfl
end Go.Proofs.Ytelpdbkkefpjhaa.Fl
