/-
What digits, cut and join come to. Conditions: as each says.
-/
import Derived.Test.YtelpdbkkefpjhaaFNumA
import Derived.Test.YtelpdbkkefpjhaaFLen
import Derived.Deep.QuietTactic
import Derived.BigQuiet
import Derived.RegionTactic
set_option linter.unusedVariables false
namespace Go.Proofs.Ytelpdbkkefpjhaa
open Go.RowKit
attribute [local go_sem ↓] ib_andNot_sign ib_and_frac ib_and_15 ib_and_1 ib_and_sign ib_and_inf ib_or

theorem bitLen_log (x : Nat) (h0 : x ≠ 0) (h : x < 18446744073709551616) : Lib.bitLen x = x.log2 + 1 := by
  induction x using Nat.strongRecOn with
  | ind x ih =>
    rw [Lib.bitLen_half x h0 h, Nat.log2_def]
    by_cases h2 : 2 ≤ x
    · rw [if_pos h2, ih (x / 2) (by omega) (by omega) (by omega)]; omega
    · rw [if_neg h2]
      have : x = 1 := by omega
      subst this; rfl
theorem ret2_ui {a a' b b' : Int} (h1 : a = a') (h2 : b = b') : Ending.returned (.tuple #[.int .u64 a, .int .i64 b]) = .returned (.tuple #[.int .u64 a', .int .i64 b']) := by rw [h1, h2]

theorem digits_any (b : Nat) (w : World) (hb : b < 18446744073709551616) (h0 : Fl.rung b ≠ 0) (hf : Fl.rung b < Fl.INF) :
    Calls Try.prog 58 #[.float .f64 b] w fun e w' => e = .returned (.tuple #[.int .u64 (Fl.dm b), .int .i64 (Fl.de b)]) ∧ w = w' := by
  have hr := rung_def b
  have hI := Fl.INF_val
  by_cases h : 4503599627370496 ≤ (b : Int) % 9223372036854775808
  · have hd : Fl.dm b = 4503599627370496 + b % 4503599627370496 := by
      unfold Fl.dm; rw [if_neg (by omega), pm_def, if_neg (by omega)]; omega
    have he : Fl.de b = (b : Int) % 9223372036854775808 / 4503599627370496 - 1023 - 52 := by
      unfold Fl.de; rw [if_neg (by omega), pe_def, if_neg (by omega)]; omega
    have ho : orU ((b : Int) % 4503599627370496) 4503599627370496 = ((4503599627370496 + b % 4503599627370496 : Nat) : Int) := by
      have := orU_nat (a := 4503599627370496) (b := b % 4503599627370496) 52 (by omega) (by omega) (Nat.mod_lt _ (by omega)) (by decide)
      rw [← this]
      unfold orU
      have e := u64_or_nat (b % 4503599627370496) 4503599627370496 (by omega) (by omega)
      have e2 := u64_or_nat 4503599627370496 (b % 4503599627370496) (by omega) (by omega)
      rw [show ((b : Int) % 4503599627370496) = ((b % 4503599627370496 : Nat) : Int) by omega, show (4503599627370496 : Int) = ((4503599627370496 : Nat) : Int) from rfl, e, e2, Nat.or_comm]
    rw [hd, he]
    clear hd he hr hI h0 hf
    have HO := Lib.hid ho
    clear ho
    go_enter Try.func58, Try.ntmps58
    go_wp2_with fail
    go_ret2
    exact ⟨ret2_ui HO.out rfl, rfl⟩
  · have hd : decide (4503599627370496 ≤ (b : Int) % 9223372036854775808) = false := by simp [h]
    have hl := bitLen_log (b % 9223372036854775808) (by omega) (by omega)
    have hll := Fl.log_lt (r := b % 9223372036854775808) (by omega) (by omega)
    have hn : ((b : Int) % 9223372036854775808).toNat = b % 9223372036854775808 := by omega
    have hlb : 1 ≤ Lib.bitLen (b % 9223372036854775808) ∧ Lib.bitLen (b % 9223372036854775808) ≤ 52 := by rw [hl]; omega
    have HL := Lib.hid hl
    have HN := Lib.hid hn
    have HF := Lib.hid hf
    have H0 := Lib.hid h0
    clear h hl hll hn hf h0 hr hI
    obtain ⟨l1, l2⟩ := hlb
    go_enter Try.func58, Try.ntmps58
    go_wp2_with fail
    refine (len64_any _ _ (by omega) (by omega)).mono ?_
    rintro e w' ⟨rfl, rfl⟩
    rw [HN.out]
    generalize hL : Lib.bitLen (b % 9223372036854775808) = L at *
    have HB := Lib.hid hL
    clear hL
    go_wp2_with fail
    go_ret2
    have h0 := H0.out
    have hf := HF.out
    have hL := HL.out
    have hr := rung_def b
    have hlt : Fl.rung b < 4503599627370496 := by simp at hd; omega
    refine ⟨ret2_ui ?_ ?_, rfl⟩
    · have hb2 := Fl.dm_bounds h0
      have e : Fl.dm b = b % 9223372036854775808 * 2 ^ (53 - L) := by
        unfold Fl.dm
        rw [if_pos hlt, hr, show 53 - L = 52 - (b % 9223372036854775808).log2 by omega]
      rw [show ((b : Int) % 9223372036854775808 * 2 ^ (53 - L)) = ((b % 9223372036854775808 * 2 ^ (53 - L) : Nat) : Int) by simp, ← e, IntKind.wrap_u64]
      omega
    · unfold Fl.de
      rw [if_pos hlt, hr]; omega

attribute [local go_sem ↓ low] ib_and

theorem two_pow_half (n : Nat) (hn : 1 ≤ n) : 2 ^ n = 2 * 2 ^ (n - 1) := by
  rw [show n = n - 1 + 1 by omega, Nat.pow_succ, show n - 1 + 1 - 1 = n - 1 by omega]; omega
theorem rne_half (m n : Nat) (hn : 1 ≤ n) : Fl.rne m n = m / 2 ^ n + if 2 ^ (n - 1) < m % 2 ^ n ∨ (2 ^ (n - 1) = m % 2 ^ n ∧ m / 2 ^ n % 2 = 1) then 1 else 0 := by
  unfold Fl.rne
  have h := two_pow_half n hn
  have a : 2 ^ n < 2 * (m % 2 ^ n) ↔ 2 ^ (n - 1) < m % 2 ^ n := by omega
  have b : 2 ^ n = 2 * (m % 2 ^ n) ↔ 2 ^ (n - 1) = m % 2 ^ n := by omega
  simp only [a, b]
end Go.Proofs.Ytelpdbkkefpjhaa
