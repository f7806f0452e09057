/-
The operations on the bits of a word that the walks meet, each as plain arithmetic. Conditions: the words are below 2^64.
-/
import Derived.Test.YtbeefnekblepfaaUaab
import Derived.WalkKit
import Derived.WalkLawsBesides
import Derived.Laws.BitsAllLaws
import Derived.Test.YtbeefnekblepfaaRows
import Derived.WalkSpells
import Derived.LoopTactic
import Derived.Outline
import Derived.Lib.Hide
import Derived.Laws.Externs
import Derived.Test.YtbeefnekblepfaaZMem
import Derived.Deep.QuietTactic
import Derived.BigQuiet
import Derived.RegionTactic
set_option linter.unusedVariables false
namespace Go.Proofs.Ytbeefnekblepfaa
open Go.RowKit

theorem bitop_eq (op : BinOp) (hop : op = .and ∨ op = .or ∨ op = .xor ∨ op = .andNot) (k : IntKind) (t : TypeId) (a b : Int) :
    binOp op t (.int k a) (.int k b) = pure (.int k (bits op k a b)) := by
  rcases hop with rfl | rfl | rfl | rfl <;> simp [binOp, Op.intBits, bits]

theorem and_mask (a n : Nat) : a &&& (2 ^ n - 1) = a % 2 ^ n := Nat.and_two_pow_sub_one_eq_mod a n
theorem or_add (a b n : Nat) (hb : b < 2 ^ n) (ha : a % 2 ^ n = 0) : a ||| b = a + b := by
  have e : a = a / 2 ^ n * 2 ^ n := by have := Nat.div_add_mod a (2 ^ n); rw [ha, Nat.mul_comm] at this; omega
  rw [e]
  have := Nat.shiftLeft_add_eq_or_of_lt hb (a / 2 ^ n)
  rw [Nat.shiftLeft_eq] at this
  exact this.symm
theorem bits_andNot_sign {b : Nat} (hb : b < 18446744073709551616) : bits .andNot .u64 (b : Int) 9223372036854775808 = ((b % 9223372036854775808 : Nat) : Int) := by
  have := u64_andNot_nat b 9223372036854775808 hb (by omega)
  rw [show ((9223372036854775808 : Nat) : Int) = 9223372036854775808 from rfl] at this
  rw [this, show (18446744073709551615 - 9223372036854775808 : Nat) = 2 ^ 63 - 1 from rfl, and_mask]
theorem bits_and_frac {b : Nat} (hb : b < 18446744073709551616) : bits .and .u64 (b : Int) 4503599627370495 = ((b % 4503599627370496 : Nat) : Int) := by
  have := u64_and_nat b 4503599627370495 hb (by omega)
  rw [show ((4503599627370495 : Nat) : Int) = 4503599627370495 from rfl] at this
  rw [this, show (4503599627370495 : Nat) = 2 ^ 52 - 1 from rfl, and_mask]
theorem bits_and_15 {b : Nat} (hb : b < 18446744073709551616) : bits .and .u64 (b : Int) 15 = ((b % 16 : Nat) : Int) := by
  have := u64_and_nat b 15 hb (by omega)
  rw [show ((15 : Nat) : Int) = 15 from rfl] at this
  rw [this, show (15 : Nat) = 2 ^ 4 - 1 from rfl, and_mask]
theorem bits_and_1 {b : Nat} (hb : b < 18446744073709551616) : bits .and .u64 (b : Int) 1 = ((b % 2 : Nat) : Int) := by
  have := u64_and_nat b 1 hb (by omega)
  rw [show ((1 : Nat) : Int) = 1 from rfl] at this
  rw [this, show (1 : Nat) = 2 ^ 1 - 1 from rfl, and_mask]
theorem bits_and_sign {b : Nat} (hb : b < 18446744073709551616) : bits .and .u64 (b : Int) 9223372036854775808 = ((Fl.wd (Fl.sg b) 0 : Nat) : Int) := by
  have := u64_and_nat b 9223372036854775808 hb (by omega)
  rw [show ((9223372036854775808 : Nat) : Int) = 9223372036854775808 from rfl] at this
  rw [this]
  have h : b &&& 9223372036854775808 = b / 9223372036854775808 % 2 * 9223372036854775808 := nat_bit 63 b
  rw [h]
  unfold Fl.wd Fl.sg
  by_cases h1 : b / 9223372036854775808 % 2 = 1
  · simp [h1]
  · have h2 : b / 9223372036854775808 % 2 = 0 := by omega
    simp [h2]
theorem bits_and_inf {b : Nat} (hb : b < 18446744073709551616) : bits .and .u64 (b : Int) 9218868437227405312 = ((b / 4503599627370496 % 2048 * 4503599627370496 : Nat) : Int) := by
  have := u64_and_nat b 9218868437227405312 hb (by omega)
  rw [show ((9218868437227405312 : Nat) : Int) = 9218868437227405312 from rfl] at this
  rw [this]
  have e : b &&& 9218868437227405312 = ((b >>> 52) &&& 2047) <<< 52 := by
    refine Nat.eq_of_testBit_eq fun i => ?_
    rw [Nat.testBit_and, Nat.testBit_shiftLeft, Nat.testBit_and, Nat.testBit_shiftRight]
    rw [show (9218868437227405312 : Nat) = 2047 <<< 52 from rfl, Nat.testBit_shiftLeft]
    by_cases h : 52 ≤ i
    · simp only [h, decide_true, Bool.true_and]; rw [show 52 + (i - 52) = i by omega]
    · simp [h]
  rw [e, Nat.shiftLeft_eq, Nat.shiftRight_eq_div_pow, show (2047 : Nat) = 2 ^ 11 - 1 from rfl, and_mask]
theorem bits_or_nat {a b : Nat} (n : Nat) (ha : a < 18446744073709551616) (hb : b < 18446744073709551616) (h1 : b < 2 ^ n) (h2 : a % 2 ^ n = 0) : bits .or .u64 (a : Int) (b : Int) = ((a + b : Nat) : Int) := by
  rw [u64_or_nat a b ha hb, or_add a b n h1 h2]


theorem ofInt_emod (x : Int) : BitVec.ofInt 64 x = BitVec.ofInt 64 ((x % 18446744073709551616).toNat : Int) := by
  apply BitVec.eq_of_toInt_eq
  rw [BitVec.toInt_ofInt, BitVec.toInt_ofInt, Int.toNat_of_nonneg (Int.emod_nonneg _ (by decide))]
  rw [Int.bmod_def, Int.bmod_def]
  have : x % 18446744073709551616 % ((2 ^ 64 : Nat) : Int) = x % ((2 ^ 64 : Nat) : Int) := by
    rw [show ((2 ^ 64 : Nat) : Int) = 18446744073709551616 from rfl]; omega
  rw [this]
theorem bits_wrap_left (op : BinOp) (x c : Int) : bits op .u64 x c = bits op .u64 ((x % 18446744073709551616).toNat : Int) c := by
  have h := ofInt_emod x
  unfold bits
  simp only [IntKind.bits]
  rw [h]
theorem wrap_nat (x : Int) : ((x % 18446744073709551616).toNat : Int) = x % 18446744073709551616 ∧ (x % 18446744073709551616).toNat < 18446744073709551616 := by omega
theorem ib_andNot_sign (x : Int) : Op.intBits .andNot .u64 x 9223372036854775808 = pure (.int .u64 (x % 9223372036854775808)) := by
  have := wrap_nat x
  rw [intBits_andNot, bits_wrap_left, bits_andNot_sign this.2]
  congr 2; omega
theorem ib_and_frac (x : Int) : Op.intBits .and .u64 x 4503599627370495 = pure (.int .u64 (x % 4503599627370496)) := by
  have := wrap_nat x
  rw [intBits_and, bits_wrap_left, bits_and_frac this.2]
  congr 2; omega
theorem ib_and_15 (x : Int) : Op.intBits .and .u64 x 15 = pure (.int .u64 (x % 16)) := by
  have := wrap_nat x
  rw [intBits_and, bits_wrap_left, bits_and_15 this.2]
  congr 2; omega
theorem ib_and_1 (x : Int) : Op.intBits .and .u64 x 1 = pure (.int .u64 (x % 2)) := by
  have := wrap_nat x
  rw [intBits_and, bits_wrap_left, bits_and_1 this.2]
  congr 2; omega
theorem ib_and_inf (x : Int) : Op.intBits .and .u64 x 9218868437227405312 = pure (.int .u64 (x / 4503599627370496 % 2048 * 4503599627370496)) := by
  have := wrap_nat x
  rw [intBits_and, bits_wrap_left, bits_and_inf this.2]
  congr 2; omega
/-- The bit of the sign alone. -/
def signOf (x : Int) : Int := x / 9223372036854775808 % 2 * 9223372036854775808
theorem ib_and_sign (x : Int) : Op.intBits .and .u64 x 9223372036854775808 = pure (.int .u64 (signOf x)) := by
  have h := wrap_nat x
  rw [intBits_and, bits_wrap_left, bits_and_sign h.2]
  congr 2
  unfold signOf Fl.wd Fl.sg
  by_cases h1 : (x % 18446744073709551616).toNat / 9223372036854775808 % 2 = 1
  · simp [h1]; omega
  · simp [h1]; omega
/-- The bits of either. -/
def orU (a b : Int) : Int := bits .or .u64 a b
theorem ib_or (a b : Int) : Op.intBits .or .u64 a b = pure (.int .u64 (orU a b)) := by rw [intBits_or]; rfl
theorem orU_nat {a b : Nat} (n : Nat) (ha : a < 18446744073709551616) (hb : b < 18446744073709551616) (h1 : b < 2 ^ n) (h2 : a % 2 ^ n = 0) : orU (a : Int) (b : Int) = ((a + b : Nat) : Int) := by
  unfold orU; rw [bits_or_nat n ha hb h1 h2]
/-- The bits of both. -/
def andU (a b : Int) : Int := bits .and .u64 a b
theorem ib_and (a b : Int) : Op.intBits .and .u64 a b = pure (.int .u64 (andU a b)) := by rw [intBits_and]; rfl
end Go.Proofs.Ytbeefnekblepfaa
/-
What the functions on one float come to that use no memory: Same, Parts, Len64, digits, cut, join, Up, Down. Conditions: the words are below 2^64.
-/
set_option linter.unusedVariables false
namespace Go.Proofs.Ytbeefnekblepfaa
open Go.RowKit

theorem run_bits (b : Nat) (w : World) : (callFunc 39 #[.float .f64 b]).run Try.prog w = .ok (.value (.int .u64 (b : Int))) w := by kernel_rfl
attribute [go_sem] run_bits
theorem ret_float {a b : Nat} (h : a = b) : Ending.returned (.float .f64 a) = .returned (.float .f64 b) := by rw [h]
theorem ret_bool {a b : Bool} (h : a = b) : Ending.returned (.bool a) = .returned (.bool b) := by rw [h]
theorem ret_int {k : IntKind} {a b : Int} (h : a = b) : Ending.returned (.int k a) = .returned (.int k b) := by rw [h]

theorem nan_self (b : Nat) : (FloatKind.f64.format.order b b != some .eq) = Fl.nan b := by
  unfold Fl.nan
  rw [bne]
  by_cases h : Fl.INF < Fl.rung b
  · rw [Fl.cmp_nan (.inl h)]; simp [h]
  · rw [Fl.eql_of (by omega) (by omega)]; simp [h]
theorem key_zero : Fl.key 0 = 0 := by decide
theorem rung_zero : Fl.rung 0 = 0 := by decide
theorem eql_zero (b : Nat) : (FloatKind.f64.format.order b 0 == some .eq) = decide (Fl.rung b = 0) := by
  by_cases h : Fl.INF < Fl.rung b
  · rw [Fl.cmp_nan (.inl h)]
    have := Fl.INF_val
    exact (decide_eq_false (by omega)).symm
  · rw [Fl.eql_of (by omega) (by rw [rung_zero]; decide), key_zero, Bool.eq_iff_iff]
    simp only [decide_eq_true_eq]
    unfold Fl.key; split <;> omega
theorem lss_zero (b : Nat) : (FloatKind.f64.format.order b 0 == some .lt) = (decide (Fl.rung b ≠ 0 ∧ Fl.rung b ≤ Fl.INF) && Fl.sg b) := by
  by_cases h : Fl.INF < Fl.rung b
  · rw [Fl.cmp_nan (.inl h)]
    rw [decide_eq_false (by omega)]; rfl
  · rw [Fl.lss_of (by omega) (by rw [rung_zero]; decide), key_zero, Bool.eq_iff_iff]
    simp only [decide_eq_true_eq, Bool.and_eq_true]
    unfold Fl.key; cases Fl.sg b <;> simp <;> omega

/-- The two are the same number: by their bits, or both no number. -/
def sameB (a b : Nat) : Bool := decide (a = b) || Fl.nan a && Fl.nan b

/-- The kind of a word: 0 finite, 1 infinite, 2 no number. -/
def kindOf (b : Nat) : Int := if Fl.rung b < Fl.INF then 0 else if Fl.rung b = Fl.INF then 1 else 2
def partM (b : Nat) : Int := if Fl.rung b < Fl.INF then (Fl.pm b : Int) else 0
def partE (b : Nat) : Int := if Fl.rung b < Fl.INF then (Fl.pe b : Int) - 1074 else 0

theorem results_tmp4 {fn : Func} {t u v x : Tmp} (h : fn.results = #[.tmp t, .tmp u, .tmp v, .tmp x]) (tmps : Array Value) (P : Program) (w : World) :
    (results fn tmps).run P w = .ok (.tuple #[tmps.getD t undef, tmps.getD u undef, tmps.getD v undef, tmps.getD x undef]) w := by simp [results, h]
theorem ret_parts {s s' : Bool} {m m' e e' k k' : Int} (h1 : s = s') (h2 : m = m') (h3 : e = e') (h4 : k = k') :
    Ending.returned (.tuple #[.bool s, .int .u64 m, .int .i64 e, .int .i64 k]) = .returned (.tuple #[.bool s', .int .u64 m', .int .i64 e', .int .i64 k']) := by rw [h1, h2, h3, h4]
theorem sg_walk {b : Nat} (hb : b < 18446744073709551616) : ((b : Int) / 9223372036854775808 == 1) = Fl.sg b := by
  unfold Fl.sg
  rw [Bool.eq_iff_iff, beq_iff_eq, beq_iff_eq]; omega

theorem rung_def (b : Nat) : Fl.rung b = b % 9223372036854775808 := rfl
theorem pm_def (b : Nat) : Fl.pm b = if Fl.rung b < 4503599627370496 then Fl.rung b else 4503599627370496 + Fl.rung b % 4503599627370496 := rfl
theorem pe_def (b : Nat) : Fl.pe b = if Fl.rung b < 4503599627370496 then 0 else Fl.rung b / 4503599627370496 - 1 := rfl

theorem parts_any (b : Nat) (w : World) (hb : b < 18446744073709551616) :
    Calls Try.prog 38 #[.float .f64 b] w fun e w' => e = .returned (.tuple #[.bool (Fl.sg b), .int .u64 (partM b), .int .i64 (partE b), .int .i64 (kindOf b)]) ∧ w = w' := by
  go_enter Try.func38, Try.ntmps38
  go_wp2
  all_goals
    refine bodyPost_ret (results_tmp4 rfl _ _ _) rfl ?_
    have h1 := rung_def b
    have h2 := Fl.INF_val
    have h3 := pm_def b
    have h4 := pe_def b
    refine ⟨ret_parts (sg_walk hb) ?_ ?_ ?_, rfl⟩
    all_goals simp only [beq_iff_eq, beq_eq_false_iff_ne, ne_eq] at *
    · simp only [partM]
      split
      · rw [h3]; split <;> omega
      · first | rfl | omega
    · simp only [partE]; split
      · rw [h4]; split <;> omega
      · first | rfl | omega
    · simp only [kindOf]; (repeat' split) <;> first | rfl | omega
end Go.Proofs.Ytbeefnekblepfaa
/-
Vectors and matrices: which are right, by the program and by the document. Conditions: the numbers are of an int's range, the lists' lengths below 2^62.
-/
set_option linter.unusedVariables false
namespace Go.Proofs.Ytbeefnekblepfaa
open Go.RowKit

/-- An int's range. -/
def I64 (z : Int) : Prop := -9223372036854775808 ≤ z ∧ z < 9223372036854775808

theorem Blk.nxt {w w' : World} {g : Nat} {t : TypeId} {cs : Array Value} (h : Blk w g t cs) (hb : Below w.heap.size w w') : Blk w' g t cs := h.below hb h.lt
theorem cells5 {w : World} {g : Nat} {t : TypeId} {v0 v1 v2 v3 v4 : Value} (h : Blk w g t #[v0, v1, v2, v3, v4]) :
    w.cell? ⟨g, 0, none⟩ = some v0 ∧ w.cell? ⟨g, 1, none⟩ = some v1 ∧ w.cell? ⟨g, 2, none⟩ = some v2 ∧ w.cell? ⟨g, 3, none⟩ = some v3 ∧ w.cell? ⟨g, 4, none⟩ = some v4 :=
  ⟨h.cell 0, h.cell 1, h.cell 2, h.cell 3, h.cell 4⟩
/-- A matrix. -/
def mat (A : Option Addr) (n c : Nat) (off r k ld : Int) : Value := .agg #[.slice A n c, .int .i64 off, .int .i64 r, .int .i64 k, .int .i64 ld]
/-- Is the last of n numbers, from off on and inc apart, below L? -/
def reachB (L off n inc : Int) : Bool := decide (off + (n - 1) * inc < L)
theorem reach_iff {L off n inc : Int} (hinc : 1 ≤ inc) (hl : off < L) : (n - 1 ≤ (L - 1 - off) / inc) ↔ off + (n - 1) * inc < L := by
  rw [Int.le_ediv_iff_mul_le (by omega)]; omega

theorem wrap_id {z : Int} (h : I64 z) : wrap64 z = z := by unfold I64 at h; unfold wrap64; omega

theorem reaches_any (L off n inc : Int) (w : World) (hL : L < 9223372036854775808) (ho : 0 ≤ off ∧ off < 9223372036854775808) (hn : 1 ≤ n ∧ n < 9223372036854775808) (hi : 1 ≤ inc ∧ inc < 9223372036854775808) :
    Calls Try.prog 41 #[.int .i64 L, .int .i64 off, .int .i64 n, .int .i64 inc] w fun e w' => e = .returned (.bool (reachB L off n inc)) ∧ w = w' := by
  go_enter Try.func41, Try.ntmps41
  by_cases h1 : off < L
  · have d1 : decide (off < L) = true := by simp [h1]
    have e0 : (inc == 0) = false := by simp; omega
    have e1 : wrap64 (n - 1) = n - 1 := by unfold wrap64; omega
    have e2 : wrap64 (L - 1) = L - 1 := by unfold wrap64; omega
    have e3 : wrap64 (L - 1 - off) = L - 1 - off := by unfold wrap64; omega
    go_wp2
    all_goals
      go_ret
      exact ⟨ret_bool (decide_eq_decide.2 (reach_iff hi.1 h1)), rfl⟩
  · have d1 : decide (off < L) = false := by simp; omega
    have hle : 0 ≤ (n - 1) * inc := Int.mul_nonneg (by omega) (by omega)
    go_wp2
    all_goals
      go_ret
      exact ⟨ret_bool (decide_eq_false (by omega)).symm, rfl⟩

/-- Is off + a b + c below n? -/
def belowB (n off a b c : Int) : Bool := decide (off + a * b + c < n)
theorem below_iff {n off a b c : Int} (ha : 1 ≤ a) (hb : 0 ≤ b) : b ≤ (n - off - c - 1) / a ↔ off + a * b + c < n := by
  rw [Int.le_ediv_iff_mul_le (by omega), Int.mul_comm]; omega

theorem rwithin_any (n off a b c : Int) (w : World) (hn : 0 ≤ n ∧ n < 9223372036854775808) (ho : 0 ≤ off ∧ off < 9223372036854775808) (ha : 0 ≤ a ∧ a < 9223372036854775808) (hb : 0 ≤ b ∧ b < 9223372036854775808) (hc : 0 ≤ c ∧ c < 9223372036854775808) :
    Calls Try.prog 37 #[.int .i64 n, .int .i64 off, .int .i64 a, .int .i64 b, .int .i64 c] w fun e w' => e = .returned (.bool (belowB n off a b c)) ∧ w = w' := by
  have hle : 0 ≤ a * b := Int.mul_nonneg (by omega) (by omega)
  go_enter Try.func37, Try.ntmps37
  by_cases h1 : n ≤ off
  · have d1 : decide (n ≤ off) = true := by simp [h1]
    go_wp2
    all_goals
      go_ret
      exact ⟨ret_bool (decide_eq_false (by omega)).symm, rfl⟩
  have d1 : decide (n ≤ off) = false := by simp; omega
  have e1 : wrap64 (n - off) = n - off := by unfold wrap64; omega
  by_cases h2 : n - off ≤ c
  · have d2 : decide (n - off ≤ c) = true := by simp [h2]
    go_wp2
    all_goals
      go_ret
      exact ⟨ret_bool (decide_eq_false (by omega)).symm, rfl⟩
  have d2 : decide (n - off ≤ c) = false := by simp; omega
  have e2 : wrap64 (n - off - c) = n - off - c := by unfold wrap64; omega
  have e3 : wrap64 (n - off - c - 1) = n - off - c - 1 := by unfold wrap64; omega
  by_cases h3 : a = 0
  · subst h3
    go_wp2
    all_goals
      go_ret
      exact ⟨ret_bool (decide_eq_true (by omega)).symm, rfl⟩
  · have d3 : (a == 0) = false := by simp [h3]
    go_wp2
    all_goals
      go_ret
      exact ⟨ret_bool (decide_eq_decide.2 (below_iff (by omega) hb.1)), rfl⟩

/-- Is a vector of k numbers in a list of n right? -/
def vecB (n : Nat) (off k inc : Int) : Bool := decide (0 ≤ k ∧ 1 ≤ inc ∧ 0 ≤ off ∧ (k = 0 ∨ off + (k - 1) * inc < n))
/-- Is a matrix of r rows and k columns in a list of n right? -/
def matB (n : Nat) (off r k ld : Int) : Bool := decide (0 ≤ r ∧ 0 ≤ k ∧ 1 ≤ ld ∧ r ≤ ld ∧ 0 ≤ off ∧ (r = 0 ∨ k = 0 ∨ off + (k - 1) * ld + (r - 1) < n))

theorem right_any (A : Option Addr) (n c : Nat) (off k inc : Int) (w : World) (hn : n < 9223372036854775808) (ho : I64 off) (hk : I64 k) (hi : I64 inc) :
    Calls Try.prog 55 #[.agg #[.slice A n c, .int .i64 off, .int .i64 k, .int .i64 inc]] w fun e w' => e = .returned (.bool (vecB n off k inc)) ∧ Below w.heap.size w w' := by
  unfold I64 at ho hk hi
  go_enter Try.func55, Try.ntmps55
  have hbel := fun (o : Obj) => (Below.refl w.heap.size w).alloc (Nat.le_refl _) o
  by_cases h1 : k < 0 ∨ inc < 1 ∨ off < 0
  · have hv : vecB n off k inc = false := decide_eq_false (by omega)
    go_wp2
    all_goals
      go_ret
      first | exact ⟨rfl, hbel _⟩ | exact ⟨ret_bool hv.symm, hbel _⟩
  · have d1 : decide (k < 0) = false := by simp; omega
    have d2 : decide (inc < 1) = false := by simp; omega
    have d3 : decide (off < 0) = false := by simp; omega
    by_cases h2 : k = 0
    · subst h2
      have hv : vecB n off 0 inc = true := decide_eq_true (by omega)
      go_wp2
      all_goals
        go_ret
        first | exact ⟨rfl, hbel _⟩ | exact ⟨ret_bool hv.symm, hbel _⟩
    · have d4 : (k == 0) = false := by simp [h2]
      have hv : reachB n off k inc = vecB n off k inc := decide_eq_decide.2 (by omega)
      go_wp2_with fail
      refine (reaches_any n off k inc _ (by omega) (by omega) (by omega) (by omega)).mono ?_
      rintro e w' ⟨rfl, rfl⟩
      go_wp2_with fail
      go_ret
      first | exact ⟨rfl, hbel _⟩ | exact ⟨ret_bool hv.symm, hbel _⟩

theorem none_any (A : Option Addr) (n c : Nat) (off r k ld : Int) (w : World) :
    Calls Try.prog 40 #[.agg #[.slice A n c, .int .i64 off, .int .i64 r, .int .i64 k, .int .i64 ld]] w fun e w' => e = .returned (.bool (r == 0 || k == 0)) ∧ Below w.heap.size w w' := by
  go_enter Try.func40, Try.ntmps40
  have hbel := fun (o : Obj) => (Below.refl w.heap.size w).alloc (Nat.le_refl _) o
  go_wp2
  all_goals
    go_ret
    exact ⟨ret_bool (by simp_all), hbel _⟩

theorem good_any (A : Option Addr) (n c : Nat) (off r k ld : Int) (w : World) (hn : n < 9223372036854775808) (ho : I64 off) (hr : I64 r) (hk : I64 k) (hi : I64 ld) :
    Calls Try.prog 31 #[.agg #[.slice A n c, .int .i64 off, .int .i64 r, .int .i64 k, .int .i64 ld]] w fun e w' => e = .returned (.bool (matB n off r k ld)) ∧ Below w.heap.size w w' := by
  unfold I64 at ho hr hk hi
  go_enter Try.func31, Try.ntmps31
  have hbel := fun (o : Obj) => (Below.refl w.heap.size w).alloc (Nat.le_refl _) o
  by_cases h1 : r < 0 ∨ k < 0 ∨ ld < max 1 r ∨ off < 0
  · have hv : matB n off r k ld = false := decide_eq_false (by omega)
    go_wp2
    all_goals
      go_ret
      first | exact ⟨rfl, hbel _⟩ | exact ⟨ret_bool hv.symm, hbel _⟩
  · have d1 : decide (r < 0) = false := by simp; omega
    have d2 : decide (k < 0) = false := by simp; omega
    have d3 : decide (ld < 1) = false := by simp; omega
    have d3' : decide (ld < r) = false := by simp; omega
    have d4 : decide (off < 0) = false := by simp; omega
    by_cases h2 : r = 0 ∨ k = 0
    · have d5 : (r == 0 || k == 0) = true := by simpa using h2
      have hv : matB n off r k ld = true := decide_eq_true (by omega)
      go_wp2_with fail
      all_goals
        refine (none_any A n c off r k ld _).mono ?_
        rintro e w' ⟨rfl, b1⟩
        go_wp2_with fail
        go_ret
        first | exact ⟨rfl, (hbel _).trans (b1.mono (by simp))⟩ | exact ⟨ret_bool hv.symm, (hbel _).trans (b1.mono (by simp))⟩
    · have d5 : (r == 0 || k == 0) = false := by simpa using h2
      have e1 : wrap64 (r - 1) = r - 1 := by unfold wrap64; omega
      have e2 : wrap64 ((n : Int) - (r - 1)) = (n : Int) - (r - 1) := by unfold wrap64; omega
      have hv : reachB ((n : Int) - (r - 1)) off k ld = matB n off r k ld := decide_eq_decide.2 (by omega)
      go_wp2_with fail
      all_goals
        refine (none_any A n c off r k ld _).mono ?_
        rintro e w' ⟨rfl, b1⟩
        obtain ⟨c0, c1, c2, c3, c4⟩ := cells5 ((Blk.new w 26 _).nxt b1)
        go_wp2_with fail
        refine (reaches_any _ off k ld _ (by omega) (by omega) (by omega) (by omega)).mono ?_
        rintro e w' ⟨rfl, rfl⟩
        go_wp2_with fail
        go_ret
        first | exact ⟨rfl, (hbel _).trans (b1.mono (by simp))⟩ | exact ⟨ret_bool hv.symm, (hbel _).trans (b1.mono (by simp))⟩

theorem rgood_any (A : Option Addr) (n c : Nat) (off r k ld : Int) (w : World) (hn : n < 9223372036854775808) (ho : I64 off) (hr : I64 r) (hk : I64 k) (hi : I64 ld) :
    Calls Try.prog 21 #[.agg #[.slice A n c, .int .i64 off, .int .i64 r, .int .i64 k, .int .i64 ld]] w fun e w' => e = .returned (.bool (matB n off r k ld)) ∧ Below w.heap.size w w' := by
  unfold I64 at ho hr hk hi
  go_enter Try.func21, Try.ntmps21
  have hbel := fun (o : Obj) => (Below.refl w.heap.size w).alloc (Nat.le_refl _) o
  by_cases h1 : r < 0 ∨ k < 0 ∨ ld < 1 ∨ ld < r ∨ off < 0
  · have hv : matB n off r k ld = false := decide_eq_false (by omega)
    go_wp2
    all_goals
      go_ret
      first | exact ⟨rfl, hbel _⟩ | exact ⟨ret_bool hv.symm, hbel _⟩
  · have d1 : decide (r < 0) = false := by simp; omega
    have d2 : decide (k < 0) = false := by simp; omega
    have d3 : decide (ld < 1) = false := by simp; omega
    have d3' : decide (ld < r) = false := by simp; omega
    have d4 : decide (off < 0) = false := by simp; omega
    by_cases h2 : r = 0 ∨ k = 0
    · have hv : matB n off r k ld = true := decide_eq_true (by omega)
      have d5 : (r == 0) = true ∨ (r == 0) = false ∧ (k == 0) = true := by
        by_cases hr0 : r = 0
        · exact .inl (by simp [hr0])
        · exact .inr ⟨by simp [hr0], by simp; omega⟩
      rcases d5 with d5 | ⟨d5, d6⟩
      all_goals go_wp2
      all_goals
        go_ret
        first | exact ⟨rfl, hbel _⟩ | exact ⟨ret_bool hv.symm, hbel _⟩
    · have d5 : (r == 0) = false := by simp; omega
      have d6 : (k == 0) = false := by simp; omega
      have e1 : wrap64 (r - 1) = r - 1 := by unfold wrap64; omega
      have e2 : wrap64 (k - 1) = k - 1 := by unfold wrap64; omega
      have hv : belowB n off (k - 1) ld (r - 1) = matB n off r k ld := decide_eq_decide.2 (by omega)
      go_wp2_with fail
      refine (rwithin_any n off (k - 1) ld (r - 1) _ (by omega) (by omega) (by omega) (by omega) (by omega)).mono ?_
      rintro e w' ⟨rfl, rfl⟩
      go_wp2_with fail
      go_ret
      first | exact ⟨rfl, hbel _⟩ | exact ⟨ret_bool hv.symm, hbel _⟩
end Go.Proofs.Ytbeefnekblepfaa
