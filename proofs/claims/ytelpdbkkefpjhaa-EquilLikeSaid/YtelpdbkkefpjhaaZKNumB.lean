/-
What digits, cut and join come to. Conditions: as each says.
-/
import Derived.Test.YtelpdbkkefpjhaaKNumA
import Derived.Test.YtelpdbkkefpjhaaWKb
import Derived.Deep.QuietTactic
import Derived.BigQuiet
import Derived.RegionTactic
set_option linter.unusedVariables false
namespace Go.Proofs.Ytelpdbkkefpjhaa
open Go.RowKit
attribute [local go_sem ↓] ib_andNot_sign ib_and_frac ib_and_15 ib_and_1 ib_and_sign ib_and_inf ib_or

theorem bitLen_log (x : Nat) (h0 : x ≠ 0) (h : x < 18446744073709551616) : Lib.bitLen x = x.log2 + 1 := by
  induction x using Nat.strongRecOn with
  | ind x ih =>
    rw [Lib.bitLen_half x h0 h, Nat.log2_def]
    by_cases h2 : 2 ≤ x
    · rw [if_pos h2, ih (x / 2) (by omega) (by omega) (by omega)]; omega
    · rw [if_neg h2]
      have : x = 1 := by omega
      subst this; rfl
theorem ret2_ui {a a' b b' : Int} (h1 : a = a') (h2 : b = b') : Ending.returned (.tuple #[.int .u64 a, .int .i64 b]) = .returned (.tuple #[.int .u64 a', .int .i64 b']) := by rw [h1, h2]

theorem digits_any (b : Nat) (w : World) (hb : b < 18446744073709551616) (h0 : Fl.rung b ≠ 0) (hf : Fl.rung b < Fl.INF) :
    Calls Try.prog 58 #[.float .f64 b] w fun e w' => e = .returned (.tuple #[.int .u64 (Fl.dm b), .int .i64 (Fl.de b)]) ∧ w = w' := by
  have hr := rung_def b
  have hI := Fl.INF_val
  by_cases h : 4503599627370496 ≤ (b : Int) % 9223372036854775808
  · have hd : Fl.dm b = 4503599627370496 + b % 4503599627370496 := by
      unfold Fl.dm; rw [if_neg (by omega), pm_def, if_neg (by omega)]; omega
    have he : Fl.de b = (b : Int) % 9223372036854775808 / 4503599627370496 - 1023 - 52 := by
      unfold Fl.de; rw [if_neg (by omega), pe_def, if_neg (by omega)]; omega
    have ho : orU ((b : Int) % 4503599627370496) 4503599627370496 = ((4503599627370496 + b % 4503599627370496 : Nat) : Int) := by
      have := orU_nat (a := 4503599627370496) (b := b % 4503599627370496) 52 (by omega) (by omega) (Nat.mod_lt _ (by omega)) (by decide)
      rw [← this]
      unfold orU
      have e := u64_or_nat (b % 4503599627370496) 4503599627370496 (by omega) (by omega)
      have e2 := u64_or_nat 4503599627370496 (b % 4503599627370496) (by omega) (by omega)
      rw [show ((b : Int) % 4503599627370496) = ((b % 4503599627370496 : Nat) : Int) by omega, show (4503599627370496 : Int) = ((4503599627370496 : Nat) : Int) from rfl, e, e2, Nat.or_comm]
    rw [hd, he]
    clear hd he hr hI h0 hf
    have HO := Lib.hid ho
    clear ho
    go_enter Try.func58, Try.ntmps58
    go_wp2_with fail
    go_ret2
    exact ⟨ret2_ui HO.out rfl, rfl⟩
  · have hd : decide (4503599627370496 ≤ (b : Int) % 9223372036854775808) = false := by simp [h]
    have hl := bitLen_log (b % 9223372036854775808) (by omega) (by omega)
    have hll := Fl.log_lt (r := b % 9223372036854775808) (by omega) (by omega)
    have hn : ((b : Int) % 9223372036854775808).toNat = b % 9223372036854775808 := by omega
    have hlb : 1 ≤ Lib.bitLen (b % 9223372036854775808) ∧ Lib.bitLen (b % 9223372036854775808) ≤ 52 := by rw [hl]; omega
    have HL := Lib.hid hl
    have HN := Lib.hid hn
    have HF := Lib.hid hf
    have H0 := Lib.hid h0
    clear h hl hll hn hf h0 hr hI
    obtain ⟨l1, l2⟩ := hlb
    go_enter Try.func58, Try.ntmps58
    go_wp2_with fail
    refine (len64_any _ _ (by omega) (by omega)).mono ?_
    rintro e w' ⟨rfl, rfl⟩
    rw [HN.out]
    generalize hL : Lib.bitLen (b % 9223372036854775808) = L at *
    have HB := Lib.hid hL
    clear hL
    go_wp2_with fail
    go_ret2
    have h0 := H0.out
    have hf := HF.out
    have hL := HL.out
    have hr := rung_def b
    have hlt : Fl.rung b < 4503599627370496 := by simp at hd; omega
    refine ⟨ret2_ui ?_ ?_, rfl⟩
    · have hb2 := Fl.dm_bounds h0
      have e : Fl.dm b = b % 9223372036854775808 * 2 ^ (53 - L) := by
        unfold Fl.dm
        rw [if_pos hlt, hr, show 53 - L = 52 - (b % 9223372036854775808).log2 by omega]
      rw [show ((b : Int) % 9223372036854775808 * 2 ^ (53 - L)) = ((b % 9223372036854775808 * 2 ^ (53 - L) : Nat) : Int) by simp, ← e, IntKind.wrap_u64]
      omega
    · unfold Fl.de
      rw [if_pos hlt, hr]; omega

attribute [local go_sem ↓ low] ib_and

theorem two_pow_half (n : Nat) (hn : 1 ≤ n) : 2 ^ n = 2 * 2 ^ (n - 1) := by
  rw [show n = n - 1 + 1 by omega, Nat.pow_succ, show n - 1 + 1 - 1 = n - 1 by omega]; omega
theorem rne_half (m n : Nat) (hn : 1 ≤ n) : Fl.rne m n = m / 2 ^ n + if 2 ^ (n - 1) < m % 2 ^ n ∨ (2 ^ (n - 1) = m % 2 ^ n ∧ m / 2 ^ n % 2 = 1) then 1 else 0 := by
  unfold Fl.rne
  have h := two_pow_half n hn
  have a : 2 ^ n < 2 * (m % 2 ^ n) ↔ 2 ^ (n - 1) < m % 2 ^ n := by omega
  have b : 2 ^ n = 2 * (m % 2 ^ n) ↔ 2 ^ (n - 1) = m % 2 ^ n := by omega
  simp only [a, b]
theorem cut_eqs (m n : Nat) (hm : m < 9007199254740992) (hn : 1 ≤ n) (h : n ≤ 53) :
    andU (m : Int) (IntKind.u64.wrap (IntKind.u64.wrap (2 ^ n) - 1)) = ((m % 2 ^ n : Nat) : Int) ∧ IntKind.u64.wrap (2 ^ (n - 1)) = ((2 ^ (n - 1) : Nat) : Int) ∧ ((m : Int) / 2 ^ n) = ((m / 2 ^ n : Nat) : Int) := by
  have p1 : 2 ^ n ≤ 2 ^ 53 := Nat.pow_le_pow_right (by omega) h
  have p2 : 2 ^ (n - 1) ≤ 2 ^ 53 := Nat.pow_le_pow_right (by omega) (by omega)
  have p3 : 0 < 2 ^ n := Nat.two_pow_pos n
  have p4 : 0 < 2 ^ (n - 1) := Nat.two_pow_pos _
  have c1 : ((2 : Int) ^ n) = ((2 ^ n : Nat) : Int) := by simp
  have c2 : ((2 : Int) ^ (n - 1)) = ((2 ^ (n - 1) : Nat) : Int) := by simp
  refine ⟨?_, ?_, by rw [c1]; rfl⟩
  · rw [c1, IntKind.wrap_u64, IntKind.wrap_u64]
    rw [show (((2 ^ n : Nat) : Int) % 18446744073709551616 - 1) % 18446744073709551616 = ((2 ^ n - 1 : Nat) : Int) by omega]
    unfold andU
    rw [u64_and_nat _ _ (by omega) (by omega), and_mask]
  · rw [c2, IntKind.wrap_u64]; omega

theorem cut_any (m n : Nat) (w : World) (hm : m < 9007199254740992) (hn : 1 ≤ n) (hn2 : n < 4000) :
    Calls Try.prog 72 #[.int .u64 m, .int .i64 n] w fun e w' => e = .returned (.int .u64 (Fl.rne m n)) ∧ Below w.heap.size w w' := by
  by_cases h : 53 < n
  · have hr : Fl.rne m n = 0 := by
      refine Fl.rne_small _ _ ?_
      have : 2 ^ 54 ≤ 2 ^ n := Nat.pow_le_pow_right (by omega) (by omega)
      omega
    rw [hr]
    clear hr
    go_enter Try.func72, Try.ntmps72
    go_wp2_with fail
    go_ret
    exact ⟨rfl, Below.refl _ _⟩
  · have h' : n ≤ 53 := by omega
    clear h
    have hr : Fl.rne m n = m / 2 ^ n + if 2 ^ (n - 1) < m % 2 ^ n ∨ (2 ^ (n - 1) = m % 2 ^ n ∧ m / 2 ^ n % 2 = 1) then 1 else 0 := rne_half m n hn
    have HE := Lib.hid (cut_eqs m n hm hn h')
    have HR := Lib.hid hr
    clear hr
    go_enter Try.func72, Try.ntmps72
    go_wp2_with fail
    go_quiet (fail)
    rw [HE.out.1, HE.out.2.1, HE.out.2.2]
    clear HE
    have q1 : m / 2 ^ n < 9007199254740992 := Nat.lt_of_le_of_lt (Nat.div_le_self _ _) hm
    generalize m % 2 ^ n = R at *
    generalize m / 2 ^ n = Q at *
    generalize 2 ^ (n - 1) = G at *
    by_cases t1 : G < R
    · have b1 : decide (G < R) = true := by simp [t1]
      have hv := HR.out
      rw [if_pos (Or.inl t1)] at hv
      have HV := Lib.hid hv
      clear HR t1 hv
      go_wp2_with fail
      go_ret
      exact ⟨ret_int (by rw [HV.out]; rfl), below_drewN (Below.refl _ _) _⟩
    · have b1 : decide (G < R) = false := by simp [t1]
      by_cases t2 : R = G
      · have b2 : ((R : Int) == (G : Int)) = true := by simp [t2]
        by_cases t3 : Q % 2 = 1
        · have b3 : ((Q : Int) % 2 == 1) = true := by simp; omega
          have hv := HR.out
          rw [if_pos (Or.inr ⟨t2.symm, t3⟩)] at hv
          have HV := Lib.hid hv
          clear HR t1 t2 t3 hv
          go_wp2_with fail
          go_ret
          exact ⟨ret_int (by rw [HV.out]; rfl), below_drewN (Below.refl _ _) _⟩
        · have b3 : ((Q : Int) % 2 == 1) = false := by simp; omega
          have hv := HR.out
          rw [if_neg (by omega)] at hv
          have HV := Lib.hid hv
          clear HR t1 t2 t3 hv
          go_wp2_with fail
          go_ret
          exact ⟨ret_int (by rw [HV.out]; rfl), below_drewN (Below.refl _ _) _⟩
      · have b2 : ((R : Int) == (G : Int)) = false := by simp; omega
        have hv := HR.out
        rw [if_neg (by omega)] at hv
        have HV := Lib.hid hv
        clear HR t1 t2 hv
        go_wp2_with fail
        go_ret
        exact ⟨ret_int (by rw [HV.out]; rfl), below_drewN (Below.refl _ _) _⟩

theorem orU_shift {q r : Nat} (hq : q < 2048) (hr : r < 4503599627370496) : orU ((q : Int) * 4503599627370496) (r : Int) = ((q * 4503599627370496 + r : Nat) : Int) := by
  rw [show ((q : Int) * 4503599627370496) = ((q * 4503599627370496 : Nat) : Int) by omega]
  exact orU_nat 52 (by omega) (by omega) hr (by omega)

theorem join_any (m : Nat) (e : Int) (w : World) (h1 : 4503599627370496 ≤ m) (h2 : m < 9007199254740992) (h3 : -5000 ≤ e) (h4 : e ≤ 5000) :
    Calls Try.prog 62 #[.int .u64 m, .int .i64 e] w fun z w' => z = .returned (.int .u64 (Fl.scl m (e + 1074))) ∧ Below w.heap.size w w' := by
  have hI := Fl.INF_val
  by_cases c1 : 1023 < e + 52
  · have hs : Fl.scl m (e + 1074) = Fl.INF := by
      have := Fl.scl_exact m (e + 1074).toNat h2 (.inl h1)
      rw [Int.toNat_of_nonneg (by omega)] at this
      rw [this]; unfold Fl.cap; omega
    rw [hs, hI]
    clear hs hI
    go_enter Try.func62, Try.ntmps62
    go_wp2_with fail
    go_ret
    exact ⟨rfl, Below.refl _ _⟩
  · have c1' : decide (1023 < e + 52) = false := by simp [c1]
    by_cases c2 : -1022 ≤ e + 52
    · have hs : Fl.scl m (e + 1074) = (e + 52 + 1023).toNat * 4503599627370496 + m % 4503599627370496 := by
        have := Fl.scl_exact m (e + 1074).toNat h2 (.inl h1)
        rw [Int.toNat_of_nonneg (by omega)] at this
        rw [this]; unfold Fl.cap; omega
      have ho := orU_shift (q := (e + 52 + 1023).toNat) (r := m % 4503599627370496) (by omega) (by omega)
      have HO := Lib.hid ho
      have HS := Lib.hid hs
      clear ho hs hI c1
      go_enter Try.func62, Try.ntmps62
      go_wp2_with fail
      go_ret
      refine ⟨ret_int ?_, Below.refl _ _⟩
      have hs := HS.out
      have ho := HO.out
      have b1 : e + 52 ≤ 1023 := by simpa using c1'
      rw [hs, ← ho, IntKind.wrap_u64, show (e + 52 + 1023) * 4503599627370496 % 18446744073709551616 = ((e + 52 + 1023).toNat : Int) * 4503599627370496 by omega,
        show ((m : Int) % 4503599627370496) = ((m % 4503599627370496 : Nat) : Int) by omega]
    · have hs : Fl.scl m (e + 1074) = Fl.rne m (-1074 - e).toNat := by
        have hp : 0 < 2 ^ (-1074 - e).toNat := Nat.two_pow_pos _
        have := Fl.scl_place m (-1074 - e).toNat 0 (Nat.lt_of_le_of_lt (Nat.div_le_self _ _) h2) (.inr rfl)
        rw [show ((0 : Nat) : Int) - ((-1074 - e).toNat : Int) = e + 1074 by omega] at this
        rw [this]
        have : Fl.rne m (-1074 - e).toNat ≤ m / 2 ^ (-1074 - e).toNat + 1 := by unfold Fl.rne; split <;> omega
        have := Nat.div_le_self m (2 ^ (-1074 - e).toNat)
        unfold Fl.cap; omega
      have c2' : decide (-1022 ≤ e + 52) = false := by simp [c2]
      obtain ⟨n, hn⟩ : ∃ n : Nat, -1074 - e = n := ⟨(-1074 - e).toNat, by omega⟩
      obtain rfl : e = -1074 - n := by omega
      rw [show (-1074 - (-1074 - (n : Int))).toNat = n by omega] at hs
      rw [hs]
      clear hs hn c1 c2 hI
      go_enter Try.func62, Try.ntmps62
      go_wp2_with fail
      rw [show (-1074 - (-1074 - (n : Int))) = n by omega]
      refine (cut_any m n _ h2 (by simp at c2'; omega) (by omega)).mono ?_
      rintro e w' ⟨rfl, hw⟩
      go_wp2_with fail
      go_ret
      exact ⟨rfl, hw⟩
end Go.Proofs.Ytelpdbkkefpjhaa
