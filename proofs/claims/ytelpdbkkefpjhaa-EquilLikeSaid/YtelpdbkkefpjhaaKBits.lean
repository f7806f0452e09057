/-
The operations on the bits of a word that the walks meet, each as plain arithmetic. Conditions: the words are below 2^64.
-/
import Derived.Test.YtelpdbkkefpjhaaKFlB
import Derived.WalkKit
import Derived.WalkLawsBesides
import Derived.Laws.BitsAllLaws
set_option linter.unusedVariables false
namespace Go.Proofs.Ytelpdbkkefpjhaa
open Go.RowKit

theorem and_mask (a n : Nat) : a &&& (2 ^ n - 1) = a % 2 ^ n := Nat.and_two_pow_sub_one_eq_mod a n
theorem or_add (a b n : Nat) (hb : b < 2 ^ n) (ha : a % 2 ^ n = 0) : a ||| b = a + b := by
  have e : a = a / 2 ^ n * 2 ^ n := by have := Nat.div_add_mod a (2 ^ n); rw [ha, Nat.mul_comm] at this; omega
  rw [e]
  have := Nat.shiftLeft_add_eq_or_of_lt hb (a / 2 ^ n)
  rw [Nat.shiftLeft_eq] at this
  exact this.symm
theorem bits_andNot_sign {b : Nat} (hb : b < 18446744073709551616) : bits .andNot .u64 (b : Int) 9223372036854775808 = ((b % 9223372036854775808 : Nat) : Int) := by
  have := u64_andNot_nat b 9223372036854775808 hb (by omega)
  rw [show ((9223372036854775808 : Nat) : Int) = 9223372036854775808 from rfl] at this
  rw [this, show (18446744073709551615 - 9223372036854775808 : Nat) = 2 ^ 63 - 1 from rfl, and_mask]
theorem bits_and_frac {b : Nat} (hb : b < 18446744073709551616) : bits .and .u64 (b : Int) 4503599627370495 = ((b % 4503599627370496 : Nat) : Int) := by
  have := u64_and_nat b 4503599627370495 hb (by omega)
  rw [show ((4503599627370495 : Nat) : Int) = 4503599627370495 from rfl] at this
  rw [this, show (4503599627370495 : Nat) = 2 ^ 52 - 1 from rfl, and_mask]
theorem bits_and_15 {b : Nat} (hb : b < 18446744073709551616) : bits .and .u64 (b : Int) 15 = ((b % 16 : Nat) : Int) := by
  have := u64_and_nat b 15 hb (by omega)
  rw [show ((15 : Nat) : Int) = 15 from rfl] at this
  rw [this, show (15 : Nat) = 2 ^ 4 - 1 from rfl, and_mask]
theorem bits_and_1 {b : Nat} (hb : b < 18446744073709551616) : bits .and .u64 (b : Int) 1 = ((b % 2 : Nat) : Int) := by
  have := u64_and_nat b 1 hb (by omega)
  rw [show ((1 : Nat) : Int) = 1 from rfl] at this
  rw [this, show (1 : Nat) = 2 ^ 1 - 1 from rfl, and_mask]
theorem bits_and_sign {b : Nat} (hb : b < 18446744073709551616) : bits .and .u64 (b : Int) 9223372036854775808 = ((Fl.wd (Fl.sg b) 0 : Nat) : Int) := by
  have := u64_and_nat b 9223372036854775808 hb (by omega)
  rw [show ((9223372036854775808 : Nat) : Int) = 9223372036854775808 from rfl] at this
  rw [this]
  have h : b &&& 9223372036854775808 = b / 9223372036854775808 % 2 * 9223372036854775808 := nat_bit 63 b
  rw [h]
  unfold Fl.wd Fl.sg
  by_cases h1 : b / 9223372036854775808 % 2 = 1
  · simp [h1]
  · have h2 : b / 9223372036854775808 % 2 = 0 := by omega
    simp [h2]
theorem bits_and_inf {b : Nat} (hb : b < 18446744073709551616) : bits .and .u64 (b : Int) 9218868437227405312 = ((b / 4503599627370496 % 2048 * 4503599627370496 : Nat) : Int) := by
  have := u64_and_nat b 9218868437227405312 hb (by omega)
  rw [show ((9218868437227405312 : Nat) : Int) = 9218868437227405312 from rfl] at this
  rw [this]
  have e : b &&& 9218868437227405312 = ((b >>> 52) &&& 2047) <<< 52 := by
    refine Nat.eq_of_testBit_eq fun i => ?_
    rw [Nat.testBit_and, Nat.testBit_shiftLeft, Nat.testBit_and, Nat.testBit_shiftRight]
    rw [show (9218868437227405312 : Nat) = 2047 <<< 52 from rfl, Nat.testBit_shiftLeft]
    by_cases h : 52 ≤ i
    · simp only [h, decide_true, Bool.true_and]; rw [show 52 + (i - 52) = i by omega]
    · simp [h]
  rw [e, Nat.shiftLeft_eq, Nat.shiftRight_eq_div_pow, show (2047 : Nat) = 2 ^ 11 - 1 from rfl, and_mask]
theorem bits_or_nat {a b : Nat} (n : Nat) (ha : a < 18446744073709551616) (hb : b < 18446744073709551616) (h1 : b < 2 ^ n) (h2 : a % 2 ^ n = 0) : bits .or .u64 (a : Int) (b : Int) = ((a + b : Nat) : Int) := by
  rw [u64_or_nat a b ha hb, or_add a b n h1 h2]

theorem ofInt_emod (x : Int) : BitVec.ofInt 64 x = BitVec.ofInt 64 ((x % 18446744073709551616).toNat : Int) := by
  apply BitVec.eq_of_toInt_eq
  rw [BitVec.toInt_ofInt, BitVec.toInt_ofInt, Int.toNat_of_nonneg (Int.emod_nonneg _ (by decide))]
  rw [Int.bmod_def, Int.bmod_def]
  have : x % 18446744073709551616 % ((2 ^ 64 : Nat) : Int) = x % ((2 ^ 64 : Nat) : Int) := by
    rw [show ((2 ^ 64 : Nat) : Int) = 18446744073709551616 from rfl]; omega
  rw [this]
theorem bits_wrap_left (op : BinOp) (x c : Int) : bits op .u64 x c = bits op .u64 ((x % 18446744073709551616).toNat : Int) c := by
  have h := ofInt_emod x
  unfold bits
  simp only [IntKind.bits]
  rw [h]
theorem wrap_nat (x : Int) : ((x % 18446744073709551616).toNat : Int) = x % 18446744073709551616 ∧ (x % 18446744073709551616).toNat < 18446744073709551616 := by omega
theorem ib_andNot_sign (x : Int) : Op.intBits .andNot .u64 x 9223372036854775808 = pure (.int .u64 (x % 9223372036854775808)) := by
  have := wrap_nat x
  rw [intBits_andNot, bits_wrap_left, bits_andNot_sign this.2]
  congr 2; omega
theorem ib_and_frac (x : Int) : Op.intBits .and .u64 x 4503599627370495 = pure (.int .u64 (x % 4503599627370496)) := by
  have := wrap_nat x
  rw [intBits_and, bits_wrap_left, bits_and_frac this.2]
  congr 2; omega
theorem ib_and_15 (x : Int) : Op.intBits .and .u64 x 15 = pure (.int .u64 (x % 16)) := by
  have := wrap_nat x
  rw [intBits_and, bits_wrap_left, bits_and_15 this.2]
  congr 2; omega
theorem ib_and_1 (x : Int) : Op.intBits .and .u64 x 1 = pure (.int .u64 (x % 2)) := by
  have := wrap_nat x
  rw [intBits_and, bits_wrap_left, bits_and_1 this.2]
  congr 2; omega
theorem ib_and_inf (x : Int) : Op.intBits .and .u64 x 9218868437227405312 = pure (.int .u64 (x / 4503599627370496 % 2048 * 4503599627370496)) := by
  have := wrap_nat x
  rw [intBits_and, bits_wrap_left, bits_and_inf this.2]
  congr 2; omega
/-- The bit of the sign alone. -/
def signOf (x : Int) : Int := x / 9223372036854775808 % 2 * 9223372036854775808
theorem ib_and_sign (x : Int) : Op.intBits .and .u64 x 9223372036854775808 = pure (.int .u64 (signOf x)) := by
  have h := wrap_nat x
  rw [intBits_and, bits_wrap_left, bits_and_sign h.2]
  congr 2
  unfold signOf Fl.wd Fl.sg
  by_cases h1 : (x % 18446744073709551616).toNat / 9223372036854775808 % 2 = 1
  · simp [h1]; omega
  · simp [h1]; omega
/-- The bits of either. -/
def orU (a b : Int) : Int := bits .or .u64 a b
theorem ib_or (a b : Int) : Op.intBits .or .u64 a b = pure (.int .u64 (orU a b)) := by rw [intBits_or]; rfl
theorem orU_nat {a b : Nat} (n : Nat) (ha : a < 18446744073709551616) (hb : b < 18446744073709551616) (h1 : b < 2 ^ n) (h2 : a % 2 ^ n = 0) : orU (a : Int) (b : Int) = ((a + b : Nat) : Int) := by
  unfold orU; rw [bits_or_nat n ha hb h1 h2]
/-- The bits of both. -/
def andU (a b : Int) : Int := bits .and .u64 a b
theorem ib_and (a b : Int) : Op.intBits .and .u64 a b = pure (.int .u64 (andU a b)) := by rw [intBits_and]; rfl
end Go.Proofs.Ytelpdbkkefpjhaa
