/-
math/bits.Len64 comes to the number of binary digits. Conditions: the number is a uint64.
-/
import Derived.Test.YtmjaakngiilmdaaRows
import Derived.WalkKit
import Derived.Lib.BitFns
import Derived.Test.YtmjaakngiilmdaaGc
import Derived.Deep.QuietTactic
import Derived.BigQuiet
import Derived.RegionTactic
import Derived.Deep.DeepCutAuto
namespace Go.Proofs.Ytmjaakngiilmdaa
open Go.RowKit

theorem len8_get (i : Nat) (h : i < Lib.len8tab.size) : ((Lib.len8tab[i].toNat : Nat) : Int) = (Lib.bitLen i : Int) := by
  have hs := Lib.len8tab_size
  have e := Lib.len8_eq ⟨i, by omega⟩
  unfold Lib.len8 at e
  simp only [Int.toNat_natCast] at e
  rw [← e]
  simp [h]
theorem len8_le (i : Nat) (h : i < 256) : Lib.bitLen i ≤ 8 := Lib.bitLen_le8 ⟨i, h⟩
theorem wrap_len (i : Nat) (h : i < Lib.len8tab.size) : wrap64 ((Lib.len8tab[i].toNat : Nat) : Int) = (Lib.bitLen i : Int) := by
  have hs := Lib.len8tab_size
  rw [len8_get i h]
  have := len8_le i (by omega)
  exact IntWalk.wrap64_in _ ⟨by omega, by omega⟩
theorem len_c (c : Int) (i : Nat) (h : i < Lib.len8tab.size) (X : Nat) (hc : 0 ≤ c ∧ c ≤ 56) (hX : (Lib.bitLen X : Int) = c + (Lib.bitLen i : Int)) :
    wrap64 (c + wrap64 ((Lib.len8tab[i].toNat : Nat) : Int)) = (Lib.bitLen X : Int) := by
  have hs := Lib.len8tab_size
  have := len8_le i (by omega)
  rw [wrap_len i h, hX]
  exact IntWalk.wrap64_in _ ⟨by omega, by omega⟩
theorem len_0 (i : Nat) (h : i < Lib.len8tab.size) : wrap64 (wrap64 ((Lib.len8tab[i].toNat : Nat) : Int)) = (Lib.bitLen i : Int) := by
  have hs := Lib.len8tab_size
  have := len8_le i (by omega)
  rw [wrap_len i h]
  exact IntWalk.wrap64_in _ ⟨by omega, by omega⟩

set_option maxHeartbeats 4000000 in
set_option maxRecDepth 100000 in
theorem len64_any (x : Int) (w : World) (h0 : 0 ≤ x) (h1 : x ≤ 18446744073709551615) :
    Calls Try.prog 87 #[.int .u64 x] w fun e w' => e = .returned (.int .i64 (Lib.bitLen x.toNat)) ∧ w = w' := by
  have hs : ((Lib.len8tab.size : Nat) : Int) = 256 := by rw [Lib.len8tab_size]; rfl
  go_enter Try.func87, Try.ntmps87
  go_wp2
  all_goals
    go_ret
    refine ⟨congrArg (fun z => Ending.returned (.int .i64 z)) ?_, rfl⟩
    have hz := Lib.len8tab_size
    first
      | (refine len_c 56 (x / 4294967296 / 65536 / 256).toNat (by omega) x.toNat (by omega) ?_
         have s := Lib.bitLen_shift56 x.toNat (by omega) (by omega)
         rw [show (x / 4294967296 / 65536 / 256).toNat = x.toNat / 72057594037927936 by omega]
         omega)
      | (refine len_c 48 (x / 4294967296 / 65536).toNat (by omega) x.toNat (by omega) ?_
         have s := Lib.bitLen_shift48 x.toNat (by omega) (by omega)
         rw [show (x / 4294967296 / 65536).toNat = x.toNat / 281474976710656 by omega]
         omega)
      | (refine len_c 40 (x / 4294967296 / 256).toNat (by omega) x.toNat (by omega) ?_
         have s := Lib.bitLen_shift40 x.toNat (by omega) (by omega)
         rw [show (x / 4294967296 / 256).toNat = x.toNat / 1099511627776 by omega]
         omega)
      | (refine len_c 32 (x / 4294967296).toNat (by omega) x.toNat (by omega) ?_
         have s := Lib.bitLen_shift32 x.toNat (by omega) (by omega)
         rw [show (x / 4294967296).toNat = x.toNat / 4294967296 by omega]
         omega)
      | (refine len_c 24 (x / 65536 / 256).toNat (by omega) x.toNat (by omega) ?_
         have s := Lib.bitLen_shift24 x.toNat (by omega) (by omega)
         rw [show (x / 65536 / 256).toNat = x.toNat / 16777216 by omega]
         omega)
      | (refine len_c 16 (x / 65536).toNat (by omega) x.toNat (by omega) ?_
         have s := Lib.bitLen_shift16 x.toNat (by omega) (by omega)
         rw [show (x / 65536).toNat = x.toNat / 65536 by omega]
         omega)
      | (refine len_c 8 (x / 256).toNat (by omega) x.toNat (by omega) ?_
         have s := Lib.bitLen_shift8 x.toNat (by omega) (by omega)
         rw [show (x / 256).toNat = x.toNat / 256 by omega]
         omega)
      | exact len_0 x.toNat (by omega)
end Go.Proofs.Ytmjaakngiilmdaa
/-
What digits, cut and join come to. Conditions: as each says.
-/
set_option linter.unusedVariables false
namespace Go.Proofs.Ytmjaakngiilmdaa
open Go.RowKit
attribute [local go_sem ↓] ib_andNot_sign ib_and_frac ib_and_15 ib_and_1 ib_and_sign ib_and_inf ib_or

theorem bitLen_log (x : Nat) (h0 : x ≠ 0) (h : x < 18446744073709551616) : Lib.bitLen x = x.log2 + 1 := by
  induction x using Nat.strongRecOn with
  | ind x ih =>
    rw [Lib.bitLen_half x h0 h, Nat.log2_def]
    by_cases h2 : 2 ≤ x
    · rw [if_pos h2, ih (x / 2) (by omega) (by omega) (by omega)]; omega
    · rw [if_neg h2]
      have : x = 1 := by omega
      subst this; rfl
theorem ret2_ui {a a' b b' : Int} (h1 : a = a') (h2 : b = b') : Ending.returned (.tuple #[.int .u64 a, .int .i64 b]) = .returned (.tuple #[.int .u64 a', .int .i64 b']) := by rw [h1, h2]

theorem digits_any (b : Nat) (w : World) (hb : b < 18446744073709551616) (h0 : Fl.rung b ≠ 0) (hf : Fl.rung b < Fl.INF) :
    Calls Try.prog 81 #[.float .f64 b] w fun e w' => e = .returned (.tuple #[.int .u64 (Fl.dm b), .int .i64 (Fl.de b)]) ∧ w = w' := by
  have hr := rung_def b
  have hI := Fl.INF_val
  by_cases h : 4503599627370496 ≤ (b : Int) % 9223372036854775808
  · have hd : Fl.dm b = 4503599627370496 + b % 4503599627370496 := by
      unfold Fl.dm; rw [if_neg (by omega), pm_def, if_neg (by omega)]; omega
    have he : Fl.de b = (b : Int) % 9223372036854775808 / 4503599627370496 - 1023 - 52 := by
      unfold Fl.de; rw [if_neg (by omega), pe_def, if_neg (by omega)]; omega
    have ho : orU ((b : Int) % 4503599627370496) 4503599627370496 = ((4503599627370496 + b % 4503599627370496 : Nat) : Int) := by
      have := orU_nat (a := 4503599627370496) (b := b % 4503599627370496) 52 (by omega) (by omega) (Nat.mod_lt _ (by omega)) (by decide)
      rw [← this]
      unfold orU
      have e := u64_or_nat (b % 4503599627370496) 4503599627370496 (by omega) (by omega)
      have e2 := u64_or_nat 4503599627370496 (b % 4503599627370496) (by omega) (by omega)
      rw [show ((b : Int) % 4503599627370496) = ((b % 4503599627370496 : Nat) : Int) by omega, show (4503599627370496 : Int) = ((4503599627370496 : Nat) : Int) from rfl, e, e2, Nat.or_comm]
    rw [hd, he]
    clear hd he hr hI h0 hf
    have HO := Lib.hid ho
    clear ho
    go_enter Try.func81, Try.ntmps81
    go_wp2_with fail
    go_ret2
    exact ⟨ret2_ui HO.out rfl, rfl⟩
  · have hd : decide (4503599627370496 ≤ (b : Int) % 9223372036854775808) = false := by simp [h]
    have hl := bitLen_log (b % 9223372036854775808) (by omega) (by omega)
    have hll := Fl.log_lt (r := b % 9223372036854775808) (by omega) (by omega)
    have hn : ((b : Int) % 9223372036854775808).toNat = b % 9223372036854775808 := by omega
    have hlb : 1 ≤ Lib.bitLen (b % 9223372036854775808) ∧ Lib.bitLen (b % 9223372036854775808) ≤ 52 := by rw [hl]; omega
    have HL := Lib.hid hl
    have HN := Lib.hid hn
    have HF := Lib.hid hf
    have H0 := Lib.hid h0
    clear h hl hll hn hf h0 hr hI
    obtain ⟨l1, l2⟩ := hlb
    go_enter Try.func81, Try.ntmps81
    go_wp2_with fail
    refine (len64_any _ _ (by omega) (by omega)).mono ?_
    rintro e w' ⟨rfl, rfl⟩
    rw [HN.out]
    generalize hL : Lib.bitLen (b % 9223372036854775808) = L at *
    have HB := Lib.hid hL
    clear hL
    go_wp2_with fail
    go_ret2
    have h0 := H0.out
    have hf := HF.out
    have hL := HL.out
    have hr := rung_def b
    have hlt : Fl.rung b < 4503599627370496 := by simp at hd; omega
    refine ⟨ret2_ui ?_ ?_, rfl⟩
    · have hb2 := Fl.dm_bounds h0
      have e : Fl.dm b = b % 9223372036854775808 * 2 ^ (53 - L) := by
        unfold Fl.dm
        rw [if_pos hlt, hr, show 53 - L = 52 - (b % 9223372036854775808).log2 by omega]
      rw [show ((b : Int) % 9223372036854775808 * 2 ^ (53 - L)) = ((b % 9223372036854775808 * 2 ^ (53 - L) : Nat) : Int) by simp, ← e, IntKind.wrap_u64]
      omega
    · unfold Fl.de
      rw [if_pos hlt, hr]; omega

attribute [local go_sem ↓ low] ib_and

theorem two_pow_half (n : Nat) (hn : 1 ≤ n) : 2 ^ n = 2 * 2 ^ (n - 1) := by
  rw [show n = n - 1 + 1 by omega, Nat.pow_succ, show n - 1 + 1 - 1 = n - 1 by omega]; omega
theorem rne_half (m n : Nat) (hn : 1 ≤ n) : Fl.rne m n = m / 2 ^ n + if 2 ^ (n - 1) < m % 2 ^ n ∨ (2 ^ (n - 1) = m % 2 ^ n ∧ m / 2 ^ n % 2 = 1) then 1 else 0 := by
  unfold Fl.rne
  have h := two_pow_half n hn
  have a : 2 ^ n < 2 * (m % 2 ^ n) ↔ 2 ^ (n - 1) < m % 2 ^ n := by omega
  have b : 2 ^ n = 2 * (m % 2 ^ n) ↔ 2 ^ (n - 1) = m % 2 ^ n := by omega
  simp only [a, b]
theorem cut_eqs (m n : Nat) (hm : m < 9007199254740992) (hn : 1 ≤ n) (h : n ≤ 53) :
    andU (m : Int) (IntKind.u64.wrap (IntKind.u64.wrap (2 ^ n) - 1)) = ((m % 2 ^ n : Nat) : Int) ∧ IntKind.u64.wrap (2 ^ (n - 1)) = ((2 ^ (n - 1) : Nat) : Int) ∧ ((m : Int) / 2 ^ n) = ((m / 2 ^ n : Nat) : Int) := by
  have p1 : 2 ^ n ≤ 2 ^ 53 := Nat.pow_le_pow_right (by omega) h
  have p2 : 2 ^ (n - 1) ≤ 2 ^ 53 := Nat.pow_le_pow_right (by omega) (by omega)
  have p3 : 0 < 2 ^ n := Nat.two_pow_pos n
  have p4 : 0 < 2 ^ (n - 1) := Nat.two_pow_pos _
  have c1 : ((2 : Int) ^ n) = ((2 ^ n : Nat) : Int) := by simp
  have c2 : ((2 : Int) ^ (n - 1)) = ((2 ^ (n - 1) : Nat) : Int) := by simp
  refine ⟨?_, ?_, by rw [c1]; rfl⟩
  · rw [c1, IntKind.wrap_u64, IntKind.wrap_u64]
    rw [show (((2 ^ n : Nat) : Int) % 18446744073709551616 - 1) % 18446744073709551616 = ((2 ^ n - 1 : Nat) : Int) by omega]
    unfold andU
    rw [u64_and_nat _ _ (by omega) (by omega), and_mask]
  · rw [c2, IntKind.wrap_u64]; omega

theorem cut_any (m n : Nat) (w : World) (hm : m < 9007199254740992) (hn : 1 ≤ n) (hn2 : n < 4000) :
    Calls Try.prog 88 #[.int .u64 m, .int .i64 n] w fun e w' => e = .returned (.int .u64 (Fl.rne m n)) ∧ Below w.heap.size w w' := by
  by_cases h : 53 < n
  · have hr : Fl.rne m n = 0 := by
      refine Fl.rne_small _ _ ?_
      have : 2 ^ 54 ≤ 2 ^ n := Nat.pow_le_pow_right (by omega) (by omega)
      omega
    rw [hr]
    clear hr
    go_enter Try.func88, Try.ntmps88
    go_wp2_with fail
    go_ret
    exact ⟨rfl, Below.refl _ _⟩
  · have h' : n ≤ 53 := by omega
    clear h
    have hr : Fl.rne m n = m / 2 ^ n + if 2 ^ (n - 1) < m % 2 ^ n ∨ (2 ^ (n - 1) = m % 2 ^ n ∧ m / 2 ^ n % 2 = 1) then 1 else 0 := rne_half m n hn
    have HE := Lib.hid (cut_eqs m n hm hn h')
    have HR := Lib.hid hr
    clear hr
    go_enter Try.func88, Try.ntmps88
    go_wp2_with fail
    go_quiet (fail)
    rw [HE.out.1, HE.out.2.1, HE.out.2.2]
    clear HE
    have q1 : m / 2 ^ n < 9007199254740992 := Nat.lt_of_le_of_lt (Nat.div_le_self _ _) hm
    generalize m % 2 ^ n = R at *
    generalize m / 2 ^ n = Q at *
    generalize 2 ^ (n - 1) = G at *
    by_cases t1 : G < R
    · have b1 : decide (G < R) = true := by simp [t1]
      have hv := HR.out
      rw [if_pos (Or.inl t1)] at hv
      have HV := Lib.hid hv
      clear HR t1 hv
      go_wp2_with fail
      go_ret
      exact ⟨ret_int (by rw [HV.out]; rfl), below_drewN (Below.refl _ _) _⟩
    · have b1 : decide (G < R) = false := by simp [t1]
      by_cases t2 : R = G
      · have b2 : ((R : Int) == (G : Int)) = true := by simp [t2]
        by_cases t3 : Q % 2 = 1
        · have b3 : ((Q : Int) % 2 == 1) = true := by simp; omega
          have hv := HR.out
          rw [if_pos (Or.inr ⟨t2.symm, t3⟩)] at hv
          have HV := Lib.hid hv
          clear HR t1 t2 t3 hv
          go_wp2_with fail
          go_ret
          exact ⟨ret_int (by rw [HV.out]; rfl), below_drewN (Below.refl _ _) _⟩
        · have b3 : ((Q : Int) % 2 == 1) = false := by simp; omega
          have hv := HR.out
          rw [if_neg (by omega)] at hv
          have HV := Lib.hid hv
          clear HR t1 t2 t3 hv
          go_wp2_with fail
          go_ret
          exact ⟨ret_int (by rw [HV.out]; rfl), below_drewN (Below.refl _ _) _⟩
      · have b2 : ((R : Int) == (G : Int)) = false := by simp; omega
        have hv := HR.out
        rw [if_neg (by omega)] at hv
        have HV := Lib.hid hv
        clear HR t1 t2 hv
        go_wp2_with fail
        go_ret
        exact ⟨ret_int (by rw [HV.out]; rfl), below_drewN (Below.refl _ _) _⟩

theorem orU_shift {q r : Nat} (hq : q < 2048) (hr : r < 4503599627370496) : orU ((q : Int) * 4503599627370496) (r : Int) = ((q * 4503599627370496 + r : Nat) : Int) := by
  rw [show ((q : Int) * 4503599627370496) = ((q * 4503599627370496 : Nat) : Int) by omega]
  exact orU_nat 52 (by omega) (by omega) hr (by omega)

theorem join_any (m : Nat) (e : Int) (w : World) (h1 : 4503599627370496 ≤ m) (h2 : m < 9007199254740992) (h3 : -5000 ≤ e) (h4 : e ≤ 5000) :
    Calls Try.prog 83 #[.int .u64 m, .int .i64 e] w fun z w' => z = .returned (.int .u64 (Fl.scl m (e + 1074))) ∧ Below w.heap.size w w' := by
  have hI := Fl.INF_val
  by_cases c1 : 1023 < e + 52
  · have hs : Fl.scl m (e + 1074) = Fl.INF := by
      have := Fl.scl_exact m (e + 1074).toNat h2 (.inl h1)
      rw [Int.toNat_of_nonneg (by omega)] at this
      rw [this]; unfold Fl.cap; omega
    rw [hs, hI]
    clear hs hI
    go_enter Try.func83, Try.ntmps83
    go_wp2_with fail
    go_ret
    exact ⟨rfl, Below.refl _ _⟩
  · have c1' : decide (1023 < e + 52) = false := by simp [c1]
    by_cases c2 : -1022 ≤ e + 52
    · have hs : Fl.scl m (e + 1074) = (e + 52 + 1023).toNat * 4503599627370496 + m % 4503599627370496 := by
        have := Fl.scl_exact m (e + 1074).toNat h2 (.inl h1)
        rw [Int.toNat_of_nonneg (by omega)] at this
        rw [this]; unfold Fl.cap; omega
      have ho := orU_shift (q := (e + 52 + 1023).toNat) (r := m % 4503599627370496) (by omega) (by omega)
      have HO := Lib.hid ho
      have HS := Lib.hid hs
      clear ho hs hI c1
      go_enter Try.func83, Try.ntmps83
      go_wp2_with fail
      go_ret
      refine ⟨ret_int ?_, Below.refl _ _⟩
      have hs := HS.out
      have ho := HO.out
      have b1 : e + 52 ≤ 1023 := by simpa using c1'
      rw [hs, ← ho, IntKind.wrap_u64, show (e + 52 + 1023) * 4503599627370496 % 18446744073709551616 = ((e + 52 + 1023).toNat : Int) * 4503599627370496 by omega,
        show ((m : Int) % 4503599627370496) = ((m % 4503599627370496 : Nat) : Int) by omega]
    · have hs : Fl.scl m (e + 1074) = Fl.rne m (-1074 - e).toNat := by
        have hp : 0 < 2 ^ (-1074 - e).toNat := Nat.two_pow_pos _
        have := Fl.scl_place m (-1074 - e).toNat 0 (Nat.lt_of_le_of_lt (Nat.div_le_self _ _) h2) (.inr rfl)
        rw [show ((0 : Nat) : Int) - ((-1074 - e).toNat : Int) = e + 1074 by omega] at this
        rw [this]
        have : Fl.rne m (-1074 - e).toNat ≤ m / 2 ^ (-1074 - e).toNat + 1 := by unfold Fl.rne; split <;> omega
        have := Nat.div_le_self m (2 ^ (-1074 - e).toNat)
        unfold Fl.cap; omega
      have c2' : decide (-1022 ≤ e + 52) = false := by simp [c2]
      obtain ⟨n, hn⟩ : ∃ n : Nat, -1074 - e = n := ⟨(-1074 - e).toNat, by omega⟩
      obtain rfl : e = -1074 - n := by omega
      rw [show (-1074 - (-1074 - (n : Int))).toNat = n by omega] at hs
      rw [hs]
      clear hs hn c1 c2 hI
      go_enter Try.func83, Try.ntmps83
      go_wp2_with fail
      rw [show (-1074 - (-1074 - (n : Int))) = n by omega]
      refine (cut_any m n _ h2 (by simp at c2'; omega) (by omega)).mono ?_
      rintro e w' ⟨rfl, hw⟩
      go_wp2_with fail
      go_ret
      exact ⟨rfl, hw⟩
end Go.Proofs.Ytmjaakngiilmdaa
/-
What the functions of package num come to that look at a list, or lay one. Conditions: the words are below 2^64.
-/
set_option linter.unusedVariables false
namespace Go.Proofs.Ytmjaakngiilmdaa
open Go.RowKit
attribute [local go_sem ↓] ib_andNot_sign ib_and_frac ib_and_15 ib_and_1 ib_and_sign ib_and_inf ib_or

theorem fin_bits {z : Nat} (hz : z < 18446744073709551616) : ((z : Int) / 4503599627370496 % 2048 * 4503599627370496 == 9218868437227405312) = !Fl.fin z := by
  have hr := rung_def z
  have hI := Fl.INF_val
  unfold Fl.fin
  rw [Bool.eq_iff_iff, beq_iff_eq]
  simp only [Bool.not_eq_true', decide_eq_false_iff_not]
  omega

/-- The list's floats are words. -/
def Words (zs : List Nat) : Prop := ∀ z ∈ zs, z < 18446744073709551616
/-- The cells from off on in block b are the list's floats. -/
def Holds (w : World) (b off : Nat) (zs : List Nat) : Prop := ∀ (i : Nat) (z : Nat), zs[i]? = some z → w.cell? ⟨b, off + i, none⟩ = some (.float .f64 z)

theorem all_take (zs : List Nat) (k : Nat) (h : k < zs.length) : (zs.take (k + 1)).all Fl.fin = ((zs.take k).all Fl.fin && Fl.fin zs[k]) := by
  rw [List.take_succ_eq_append_getElem h, List.all_append]; simp

theorem all_of_take {zs : List Nat} {j : Nat} (h : (zs.take j).all Fl.fin = false) : zs.all Fl.fin = false := by
  rw [← List.take_append_drop j zs, List.all_append, h]; rfl

set_option maxHeartbeats 400000 in
theorem finite_any (b off c : Nat) (zs : List Nat) (w : World) (hl : zs.length ≤ 9223372036854775807) (hw : Words zs) (hc : Holds w b off zs) :
    Calls Try.prog 80 #[.slice (some ⟨b, off, none⟩) zs.length c] w fun e w' => e = .returned (.bool (zs.all Fl.fin)) ∧ w = w' := by
  generalize hn : zs.length = n at *
  have HN := Lib.hid hn
  have HW := Lib.hid hw
  have HC := Lib.hid hc
  clear hn hw hc
  go_enter Try.func80, Try.ntmps80
  go_wp2
  go_loop [7] (fun i => ∃ k : Nat, k ≤ n ∧ i = .int .i64 k ∧ (zs.take k).all Fl.fin = true) (fun i => n - (intOf i).toNat)
  case atStart => exact ⟨0, Nat.zero_le _, rfl, by simp⟩
  case round =>
    obtain ⟨k, hk, rfl, ha⟩ := hrel
    have HA := Lib.hid ha
    clear ha
    by_cases hlt : k < n
    · have hlz : k < zs.length := by rw [HN.out]; exact hlt
      have hcell := HC.out k zs[k] (by simp [hlz])
      have hword := HW.out zs[k] (List.getElem_mem hlz)
      have hbit := fin_bits hword
      have hstep := all_take zs k hlz
      rw [HA.out] at hstep
      generalize zs[k] = z at *
      clear hword
      have HS := Lib.hid hstep
      clear hstep hlz
      by_cases hf : Fl.fin z = true
      · rw [hf] at hbit
        have HF := Lib.hid hf
        clear hf
        go_wp2
        go_round
        case rel => exact ⟨k + 1, by omega, by go_num, by rw [HS.out, HF.out]; rfl⟩
        case measure => simp [intOf]; omega
      · have hf' : Fl.fin z = false := by simpa using hf
        rw [hf'] at hbit
        have HF := Lib.hid hf'
        clear hf hf'
        go_wp2
        go_ret
        refine ⟨ret_bool ?_, rfl⟩
        have h1 := HS.out
        rw [HF.out] at h1
        exact (all_of_take h1).symm
    · go_wp2
      go_ret
      exact ⟨ret_bool (by rw [← HA.out, List.take_of_length_le (by have := HN.out; omega)]), rfl⟩

theorem finite_one (g c : Nat) (b : Nat) (w : World) (hb : b < 18446744073709551616) (hc : w.cell? ⟨g, 0, none⟩ = some (.float .f64 b)) :
    Calls Try.prog 80 #[.slice (some ⟨g, 0, none⟩) 1 c] w fun e w' => e = .returned (.bool (Fl.fin b)) ∧ w = w' := by
  have h := finite_any g 0 c [b] w (by simp) (by intro z hz; simp at hz; omega) (by
    intro i z hz
    match i, hz with
    | 0, hz => simp at hz; subst hz; simpa using hc)
  simpa using h
theorem finite_two (g c : Nat) (a b : Nat) (w : World) (ha : a < 18446744073709551616) (hb : b < 18446744073709551616) (hc : w.cell? ⟨g, 0, none⟩ = some (.float .f64 a)) (hd : w.cell? ⟨g, 1, none⟩ = some (.float .f64 b)) :
    Calls Try.prog 80 #[.slice (some ⟨g, 0, none⟩) 2 c] w fun e w' => e = .returned (.bool (Fl.fin a && Fl.fin b)) ∧ w = w' := by
  have h := finite_any g 0 c [a, b] w (by simp) (by intro z hz; simp at hz; omega) (by
    intro i z hz
    match i, hz with
    | 0, hz => simp at hz; subst hz; simpa using hc
    | 1, hz => simp at hz; subst hz; simpa using hd)
  simpa using h
theorem finite_nil (c : Nat) (w : World) :
    Calls Try.prog 80 #[.slice none 0 c] w fun e w' => e = .returned (.bool true) ∧ w = w' := by
  go_enter Try.func80, Try.ntmps80
  go_wp2
  go_loop [7] (fun i => i = .int .i64 0) (fun _ => 0)
  case atStart => rfl
  case round =>
    subst hrel
    go_wp2
    go_ret
    exact ⟨rfl, rfl⟩

/-- The exponent of a word. -/
def expOf (b : Nat) : Int := if Fl.rung b = 0 ∨ Fl.INF ≤ Fl.rung b then 0 else ((Fl.pm b).log2 : Int) + (Fl.pe b : Int) - 1074

end Go.Proofs.Ytmjaakngiilmdaa
/-
Scale comes to the nearest number. Conditions: the word is below 2^64.
-/
set_option linter.unusedVariables false
namespace Go.Proofs.Ytmjaakngiilmdaa
open Go.RowKit
attribute [local go_sem ↓] ib_andNot_sign ib_and_frac ib_and_15 ib_and_1 ib_and_sign ib_and_inf ib_or

theorem orU_sign {b r : Nat} (hr : r < 9223372036854775808) : orU (signOf (b : Int)) (r : Int) = ((Fl.wd (Fl.sg b) r : Nat) : Int) := by
  have h0 : signOf (b : Int) = ((Fl.wd (Fl.sg b) 0 : Nat) : Int) := by
    unfold signOf Fl.wd Fl.sg
    by_cases h1 : b / 9223372036854775808 % 2 = 1
    · simp [h1]; omega
    · simp [h1]; omega
  have hz : Fl.wd (Fl.sg b) 0 = 0 ∨ Fl.wd (Fl.sg b) 0 = 9223372036854775808 := by unfold Fl.wd; cases Fl.sg b <;> simp
  rw [h0, orU_nat 63 (by omega) (by omega) hr (by omega)]
  unfold Fl.wd; cases Fl.sg b <;> simp

/-- The power of 2 within the bounds beyond which nothing changes. -/
def clamp (k : Int) : Int := if k < -2099 then -2099 else if 2099 < k then 2099 else k
theorem clamp_scl {b : Nat} (h0 : Fl.rung b ≠ 0) (hf : Fl.rung b < Fl.INF) (k : Int) : Fl.scl (Fl.dm b) (Fl.de b + clamp k + 1074) = Fl.scl (Fl.mag (Fl.rung b)) k := by
  have hd := Fl.dm_bounds h0
  have he := Fl.de_bounds hf
  rw [Fl.scl_digits]
  unfold clamp
  have low : ∀ j : Int, j ≤ -54 → Fl.scl (Fl.dm b) j = 0 := by
    intro j hj
    refine Fl.scl_low _ _ ?_ (by omega)
    have : 2 ^ 54 ≤ 2 ^ (-j).toNat := Nat.pow_le_pow_right (by omega) (by omega)
    omega
  have high : ∀ j : Int, 2046 ≤ j → Fl.scl (Fl.dm b) j = Fl.INF := by
    intro j hj
    have := Fl.scl_exact (Fl.dm b) j.toNat hd.2 (.inl hd.1)
    rw [Int.toNat_of_nonneg (by omega)] at this
    have hI := Fl.INF_val
    rw [this]; unfold Fl.cap; omega
  split
  · rw [low _ (by omega), low _ (by omega)]
  · split
    · rw [high _ (by omega), high _ (by omega)]
    · congr 1; omega
theorem clamp_bounds (k : Int) : -2099 ≤ clamp k ∧ clamp k ≤ 2099 := by unfold clamp; split <;> (try split) <;> omega

theorem scale_any (b : Nat) (k : Int) (w : World) (hb : b < 18446744073709551616) :
    Calls Try.prog 60 #[.float .f64 b, .int .i64 k] w fun e w' => e = .returned (.float .f64 (Fl.scale b k)) ∧ Below w.heap.size w w' := by
  have ht := eql_zero b
  by_cases h0 : Fl.rung b = 0
  · rw [decide_eq_true h0] at ht
    have he : Fl.scale b k = b := by unfold Fl.scale; rw [if_pos (.inl h0)]
    rw [he]
    clear he h0
    go_enter Try.func60, Try.ntmps60
    go_wp2_with fail
    go_ret
    exact ⟨rfl, Below.refl _ _⟩
  · rw [decide_eq_false h0] at ht
    by_cases hf : Fl.rung b < Fl.INF
    · have hfin : Fl.fin b = true := decide_eq_true hf
      have hx := clamp_scl h0 hf k
      have he : Fl.scale b k = Fl.wd (Fl.sg b) (Fl.scl (Fl.dm b) (Fl.de b + clamp k + 1074)) := by rw [hx]; unfold Fl.scale; rw [if_neg (by omega)]
      have hd := Fl.de_bounds hf
      obtain ⟨d1, d2⟩ := hd
      have hm := Fl.dm_bounds h0
      rw [he]
      have H0 := Lib.hid h0
      have HF := Lib.hid hf
      have HI := Lib.hid hfin
      have HM := Lib.hid hm
      clear he hx h0 hf hfin hm
      have hk : (k < -2099 ∧ clamp k = -2099) ∨ (2099 < k ∧ clamp k = 2099) ∨ ((-2099 ≤ k ∧ k ≤ 2099) ∧ clamp k = k) := by
        unfold clamp; split
        · exact .inl ⟨by omega, rfl⟩
        · split
          · exact .inr (.inl ⟨by omega, rfl⟩)
          · exact .inr (.inr ⟨by omega, rfl⟩)
      rcases hk with ⟨k1, k2⟩ | ⟨k1, k2⟩ | ⟨k1, k2⟩
      all_goals
        rw [k2]
        clear k2
        go_enter Try.func60, Try.ntmps60
        go_wp2_with fail
        refine (finite_one _ _ b _ hb (by simp)).mono ?_
        rintro e w' ⟨rfl, rfl⟩
        rw [HI.out]
        go_wp2_with fail
        refine (digits_any b _ hb H0.out HF.out).mono ?_
        rintro e w' ⟨rfl, rfl⟩
        go_wp2_with fail
        refine (join_any (Fl.dm b) _ _ HM.out.1 HM.out.2 (by omega) (by omega)).mono ?_
        rintro e w' ⟨rfl, hbl⟩
        go_wp2_with fail
        go_ret
        refine ⟨ret_float ?_, ((Below.refl _ _).alloc (Nat.le_refl _) _).trans (hbl.mono (by simp))⟩
        rw [orU_sign (Nat.lt_of_le_of_lt (Fl.scl_le _ _) (by decide)), Int.toNat_natCast]
    · have hfin : Fl.fin b = false := decide_eq_false hf
      have he : Fl.scale b k = b := by unfold Fl.scale; rw [if_pos (.inr (by omega))]
      rw [he]
      have HI := Lib.hid hfin
      clear he h0 hf hfin
      go_enter Try.func60, Try.ntmps60
      go_wp2_with fail
      refine (finite_one _ _ b _ hb (by simp)).mono ?_
      rintro e w' ⟨rfl, rfl⟩
      rw [HI.out]
      go_wp2_with fail
      go_ret
      exact ⟨rfl, (Below.refl _ _).alloc (Nat.le_refl _) _⟩
end Go.Proofs.Ytmjaakngiilmdaa
/-
Make, the document's rounding by steps, comes to the nearest number. Conditions: the digits are below 2^62.
-/
set_option linter.unusedVariables false
namespace Go.Proofs.Ytmjaakngiilmdaa
open Go.RowKit
attribute [local go_sem ↓] ib_andNot_sign ib_and_frac ib_and_15 ib_and_1 ib_and_sign ib_and_inf ib_or

/-- After some doublings of m, each of which took one from e. -/
def Up1 (m : Nat) (e : Int) (M : Nat) (E : Int) : Prop := ∃ j : Nat, M = m * 2 ^ j ∧ E = e - j ∧ (j = 0 ∨ (M < 9007199254740992 ∧ -1074 ≤ E))
theorem Up1.start (m : Nat) (e : Int) : Up1 m e m e := ⟨0, by simp, by omega, .inl rfl⟩
theorem Up1.step {m : Nat} {e : Int} {M : Nat} {E : Int} (h : Up1 m e M E) (h1 : M < 4503599627370496) (h2 : -1074 < E) : Up1 m e (M * 2) (E - 1) := by
  obtain ⟨j, rfl, rfl, _⟩ := h
  exact ⟨j + 1, by rw [Nat.pow_succ, Nat.mul_assoc], by omega, .inr ⟨by omega, by omega⟩⟩
theorem Up1.scl {m : Nat} {e : Int} {M : Nat} {E : Int} (h : Up1 m e M E) : Fl.scl m (e + 1074) = Fl.scl M (E + 1074) := by
  obtain ⟨j, rfl, rfl, _⟩ := h
  rw [Fl.scl_shift]; congr 1; omega

/-- The last digit that was cut off, and whether one behind it was 1. -/
def lostB (m i : Nat) : Bool := if i = 0 then false else decide (m % 2 ^ (i - 1) ≠ 0)
def halfB (m i : Nat) : Bool := if i = 0 then false else decide (m / 2 ^ (i - 1) % 2 = 1)
def Down2 (m : Nat) (e : Int) (M : Nat) (E : Int) (lost half : Bool) : Prop :=
  ∃ i : Nat, M = m / 2 ^ i ∧ E = e + i ∧ lost = lostB m i ∧ half = halfB m i ∧ (i = 0 ∨ 4503599627370496 ≤ M ∨ E ≤ -1074)
theorem Down2.start (m : Nat) (e : Int) : Down2 m e m e false false := ⟨0, by simp, by omega, rfl, rfl, .inl rfl⟩
theorem Down2.step {m : Nat} {e : Int} {M : Nat} {E : Int} {lost half : Bool} (h : Down2 m e M E lost half) (hc : 9007199254740992 ≤ M ∨ E < -1074) :
    Down2 m e (M / 2) (E + 1) (lost || half) (decide (M % 2 = 1)) := by
  obtain ⟨i, rfl, rfl, rfl, rfl, _⟩ := h
  refine ⟨i + 1, by rw [Nat.pow_succ, Nat.div_div_eq_div_mul], by omega, ?_, ?_, ?_⟩
  · unfold lostB halfB
    rw [if_neg (show ¬ i + 1 = 0 by omega), show i + 1 - 1 = i by omega]
    by_cases h0 : i = 0
    · subst h0; simp [Nat.mod_one]
    · rw [if_neg h0, if_neg h0]
      obtain ⟨k, rfl⟩ : ∃ k, i = k + 1 := ⟨i - 1, by omega⟩
      rw [show k + 1 - 1 = k by omega, Nat.mod_pow_succ]
      have hp : 0 < 2 ^ k := Nat.two_pow_pos k
      rw [Bool.eq_iff_iff]
      simp only [Bool.or_eq_true, decide_eq_true_eq]
      have hb : m / 2 ^ k % 2 = 0 ∨ m / 2 ^ k % 2 = 1 := by omega
      rcases hb with hb | hb
      · rw [hb]; simp
      · rw [hb]; simp
  · unfold halfB
    rw [if_neg (show ¬ i + 1 = 0 by omega), show i + 1 - 1 = i by omega]
  · rcases hc with hc | hc
    · exact .inr (.inl (by omega))
    · exact .inr (.inr (by omega))
/-- Rounded: one more if the last digit that was cut off was 1, and one behind it, or the last that is kept. -/
theorem rne_lost (m i : Nat) : Fl.rne m i = m / 2 ^ i + if halfB m i = true ∧ (lostB m i = true ∨ m / 2 ^ i % 2 = 1) then 1 else 0 := by
  by_cases h0 : i = 0
  · subst h0; rw [Fl.rne_d0]; simp [halfB]
  · rw [rne_half m i (by omega)]
    congr 1
    unfold halfB lostB
    rw [if_neg h0, if_neg h0]
    obtain ⟨k, rfl⟩ : ∃ k, i = k + 1 := ⟨i - 1, by omega⟩
    rw [show k + 1 - 1 = k by omega, Nat.mod_pow_succ]
    have hp : 0 < 2 ^ k := Nat.two_pow_pos k
    have hm := Nat.mod_lt m hp
    simp only [decide_eq_true_eq]
    have hb : m / 2 ^ k % 2 = 0 ∨ m / 2 ^ k % 2 = 1 := by omega
    generalize m / 2 ^ (k + 1) % 2 = z
    rcases hb with hb | hb
    · rw [hb, if_neg (by simp; omega), if_neg (by omega)]
    · rw [hb]
      by_cases h1 : m % 2 ^ k = 0
      · by_cases h2 : z = 1
        · rw [if_pos (by simp; omega), if_pos ⟨rfl, .inr h2⟩]
        · rw [if_neg (by simp; omega), if_neg (by omega)]
      · rw [if_pos (by simp; omega), if_pos ⟨rfl, .inl h1⟩]

/-- The rung that Make comes to, out of what its loops leave. -/
theorem Down2.scl {m : Nat} {e : Int} {M : Nat} {E : Int} {lost half : Bool} (h : Down2 m e M E lost half) (h1 : M < 9007199254740992) (h2 : -1074 ≤ E) (h3 : 4503599627370496 ≤ m ∨ e ≤ -1074) :
    Fl.scl m (e + 1074) = Fl.cap ((E + 1074).toNat * 4503599627370496 + (M + if half = true ∧ (lost = true ∨ M % 2 = 1) then 1 else 0)) ∧ (4503599627370496 ≤ M ∨ E = -1074) := by
  obtain ⟨i, rfl, rfl, rfl, rfl, hl⟩ := h
  have hq : 4503599627370496 ≤ m / 2 ^ i ∨ (e + i + 1074).toNat = 0 := by
    rcases hl with rfl | hl | hl
    · rcases h3 with h3 | h3
      · left; simpa using h3
      · right; omega
    · exact .inl hl
    · right; omega
  have := Fl.scl_place m i (e + i + 1074).toNat h1 hq
  rw [Int.toNat_of_nonneg (by omega), show e + (i : Int) + 1074 - (i : Int) = e + 1074 by omega, rne_lost] at this
  exact ⟨this, by omega⟩

theorem Down2.bound {m : Nat} {e : Int} {M : Nat} {E : Int} {lost half : Bool} (h : Down2 m e M E lost half) (h1 : m < 4611686018427387904) (h2 : e ≤ 2000) (hc : 9007199254740992 ≤ M ∨ E < -1074) : E < 5000 := by
  obtain ⟨i, rfl, rfl, _⟩ := h
  rcases hc with hc | hc
  · have : i < 62 := by
      refine Nat.lt_of_not_le fun hi => ?_
      have : 2 ^ 62 ≤ 2 ^ i := Nat.pow_le_pow_right (by omega) hi
      rw [Nat.div_eq_of_lt (by omega)] at hc
      omega
    omega
  · omega

/-- What the document's Make answers. -/
def mk (neg : Bool) (m : Nat) (e : Int) : Nat := Fl.wd neg (Fl.scl m (e + 1074))

theorem mk_false {m : Nat} {e : Int} {R : Nat} (h : Fl.scl m (e + 1074) = Fl.cap R) : mk false m e = min R 9218868437227405312 := by
  unfold mk Fl.wd Fl.cap at *
  rw [Fl.INF_val] at h
  rw [h]; simp
theorem mk_true {m : Nat} {e : Int} {R : Nat} (h : Fl.scl m (e + 1074) = Fl.cap R) : mk true m e = 9223372036854775808 + min R 9218868437227405312 := by
  unfold mk Fl.wd Fl.cap at *
  rw [Fl.INF_val] at h
  rw [h]; simp

end Go.Proofs.Ytmjaakngiilmdaa
/-
Make, the document's rounding by steps, comes to the nearest number: of numbers with no sign. Conditions: the digits are below 2^62 and not 0, the place within -1200 and 2000.
-/
set_option linter.unusedVariables false
namespace Go.Proofs.Ytmjaakngiilmdaa
open Go.RowKit
attribute [local go_sem ↓] ib_andNot_sign ib_and_frac ib_and_15 ib_and_1 ib_and_sign ib_and_inf ib_or

set_option maxHeartbeats 1000000 in
theorem make_false (m : Nat) (e : Int) (w : World) (hm0 : m ≠ 0) (hm : m < 4611686018427387904) (he1 : -1200 ≤ e) (he2 : e ≤ 2000) :
    Calls Try.prog 84 #[.bool false, .int .u64 m, .int .i64 e] w fun z w' => z = .returned (.float .f64 (mk false m e)) ∧ w = w' := by
  have t0 : ((m : Int) == 0) = false := by simp; omega
  have t1 : decide (e < -1200) = false := by simp; omega
  have t2 : decide (2000 < e) = false := by simp; omega
  have H0 := Lib.hid hm0
  clear hm0
  go_enter Try.func84, Try.ntmps84
  go_wp2
  go_loop [1, 2] (fun a b => ∃ (M : Nat) (E : Int), a = .int .u64 M ∧ b = .int .i64 E ∧ M < 4611686018427387904 ∧ -1200 ≤ E ∧ E ≤ 2000 ∧ Up1 m e M E) (fun _ b => (intOf b + 1200).toNat)
  case atStart => exact ⟨m, e, rfl, rfl, hm, he1, he2, Up1.start m e⟩
  case round =>
    obtain ⟨M, E, rfl, rfl, hM, hE1, hE2, hP⟩ := hrel
    by_cases c : M < 4503599627370496 ∧ -1074 < E
    · have HP := Lib.hid (hP.step c.1 c.2)
      have b1 : decide ((M : Int) < 4503599627370496) = true := by simp; omega
      have b2 : decide (-1074 < E) = true := by simp; omega
      clear hP
      obtain ⟨c1, c2⟩ := c
      go_wp2
      go_round
      case rel => exact ⟨M * 2, E - 1, by go_num, by go_num, by omega, by omega, by omega, HP.out⟩
      case measure => simp [intOf]; omega
    · have hs := hP.scl
      have h3 : 4503599627370496 ≤ M ∨ E ≤ -1074 := by omega
      have HS := Lib.hid hs
      have H3 := Lib.hid h3
      clear hs h3 hP
      have hb : (decide ((M : Int) < 4503599627370496) = true ∧ decide (-1074 < E) = false) ∨ decide ((M : Int) < 4503599627370496) = false := by simp; omega
      clear c
      rcases hb with ⟨b1, b2⟩ | b1
      all_goals
        go_wp2
        clear b1
        try clear b2
        go_loop [1, 2, 8, 9] (fun a b c d => ∃ (N : Nat) (F : Int) (lost half : Bool), a = .int .u64 N ∧ b = .int .i64 F ∧ c = .bool lost ∧ d = .bool half ∧ N < 4611686018427387904 ∧ -1200 ≤ F ∧ F ≤ 5000 ∧ Down2 M E N F lost half) (fun a b _ _ => (intOf a).toNat + (-1074 - intOf b).toNat)
        case atStart => exact ⟨M, E, false, false, rfl, rfl, rfl, rfl, hM, hE1, by omega, Down2.start M E⟩
        case round =>
          obtain ⟨N, F, lost, half, rfl, rfl, rfl, rfl, hN, hF1, hF2, hD⟩ := hrel
          by_cases c : 9007199254740992 ≤ N ∨ F < -1074
          · have HD := Lib.hid (hD.step c)
            have hF3 : F < 5000 := hD.bound hM hE2 c
            have hp : ((N : Int) % 2 == 1) = decide (N % 2 = 1) := by rw [Bool.eq_iff_iff]; simp; omega
            have hb : decide (9007199254740992 ≤ (N : Int)) = true ∨ (decide (9007199254740992 ≤ (N : Int)) = false ∧ decide (F < -1074) = true) := by simp; omega
            have hms : N / 2 + (-1074 - (F + 1)).toNat < N + (-1074 - F).toNat := by omega
            have HMS := Lib.hid hms
            clear hD c hms
            cases lost
            all_goals
              rcases hb with d1 | ⟨d1, d2⟩
              all_goals
                go_wp2
                go_round
                case rel => exact ⟨N / 2, F + 1, _, _, by go_num, rfl, rfl, rfl, by omega, by omega, by omega, HD.out⟩
                case measure => have := HMS.out; simp [intOf]; omega
          · have hk := hD.scl (by omega) (by omega) H3.out
            rw [← HS.out] at hk
            have hI := Fl.INF_val
            have hbits := mk_false hk.1
            have hN2 : N < 9007199254740992 := by omega
            have hF3 : -1074 ≤ F := by omega
            have hor := hk.2
            have b1 : decide (9007199254740992 ≤ (N : Int)) = false := by simp; omega
            have b2 : decide (F < -1074) = false := by simp; omega
            have hc : (half = false ∧ mk false m e = min ((F + 1074).toNat * 4503599627370496 + N) 9218868437227405312) ∨
                (half = true ∧ lost = true ∧ mk false m e = min ((F + 1074).toNat * 4503599627370496 + (N + 1)) 9218868437227405312) ∨
                (half = true ∧ lost = false ∧ ((N : Int) % 2 == 1) = true ∧ mk false m e = min ((F + 1074).toNat * 4503599627370496 + (N + 1)) 9218868437227405312) ∨
                (half = true ∧ lost = false ∧ ((N : Int) % 2 == 1) = false ∧ mk false m e = min ((F + 1074).toNat * 4503599627370496 + N) 9218868437227405312) := by
              cases half
              · left; simpa using hbits
              · right
                cases lost
                · right
                  by_cases hp : N % 2 = 1
                  · left; rw [if_pos (by simp [hp])] at hbits; exact ⟨rfl, rfl, by simp; omega, hbits⟩
                  · right; rw [if_neg (by simp [hp])] at hbits; exact ⟨rfl, rfl, by simp; omega, hbits⟩
                · left; rw [if_pos (by simp)] at hbits; exact ⟨rfl, rfl, hbits⟩
            have H0R := Lib.hid hor
            clear hbits hk hD c hor hI
            have hA : ((N : Int) == 9007199254740992) = false := by simp; omega
            have hA2 : decide (2047 ≤ F + 1075) = true ∨ (decide (2047 ≤ F + 1075) = false ∧ (decide ((N : Int) < 4503599627370496) = true ∨ decide ((N : Int) < 4503599627370496) = false)) := by simp; omega
            have hB : (((N : Int) + 1 == 9007199254740992) = true ∧ (decide (2047 ≤ F + 1 + 1075) = true ∨ (decide (2047 ≤ F + 1 + 1075) = false ∧ decide (((N : Int) + 1) / 2 < 4503599627370496) = false))) ∨
                (((N : Int) + 1 == 9007199254740992) = false ∧ (decide (2047 ≤ F + 1075) = true ∨ (decide (2047 ≤ F + 1075) = false ∧ (decide ((N : Int) + 1 < 4503599627370496) = true ∨ decide ((N : Int) + 1 < 4503599627370496) = false)))) := by simp; omega
            rcases hc with ⟨rfl, hb⟩ | ⟨rfl, rfl, hb⟩ | ⟨rfl, rfl, p1, hb⟩ | ⟨rfl, rfl, p1, hb⟩
            · have HB := Lib.hid hb
              clear hb hB
              rcases hA2 with q | ⟨q, q2 | q2⟩
              all_goals
                go_wp2
                go_ret
                refine ⟨ret_float ?_, rfl⟩
                have h1 := HB.out
                have h2 := H0R.out
                rw [h1]
                simp only [decide_eq_true_eq, decide_eq_false_iff_not, beq_eq_false_iff_ne, ne_eq] at *
                try simp only [IntKind.wrap_u64]
                omega
            · have HB := Lib.hid hb
              clear hb hA2 hA
              rcases hB with ⟨q0, q | ⟨q, q2⟩⟩ | ⟨q0, q | ⟨q, q2 | q2⟩⟩
              all_goals
                go_wp2
                go_ret
                refine ⟨ret_float ?_, rfl⟩
                have h1 := HB.out
                have h2 := H0R.out
                rw [h1]
                simp only [decide_eq_true_eq, decide_eq_false_iff_not, beq_iff_eq, beq_eq_false_iff_ne, ne_eq] at *
                try simp only [IntKind.wrap_u64]
                omega
            · have HB := Lib.hid hb
              clear hb hA2 hA
              rcases hB with ⟨q0, q | ⟨q, q2⟩⟩ | ⟨q0, q | ⟨q, q2 | q2⟩⟩
              all_goals
                go_wp2
                go_ret
                refine ⟨ret_float ?_, rfl⟩
                have h1 := HB.out
                have h2 := H0R.out
                rw [h1]
                simp only [decide_eq_true_eq, decide_eq_false_iff_not, beq_iff_eq, beq_eq_false_iff_ne, ne_eq] at *
                try simp only [IntKind.wrap_u64]
                omega
            · have HB := Lib.hid hb
              clear hb hB
              rcases hA2 with q | ⟨q, q2 | q2⟩
              all_goals
                go_wp2
                go_ret
                refine ⟨ret_float ?_, rfl⟩
                have h1 := HB.out
                have h2 := H0R.out
                rw [h1]
                simp only [decide_eq_true_eq, decide_eq_false_iff_not, beq_eq_false_iff_ne, ne_eq] at *
                try simp only [IntKind.wrap_u64]
                omega
end Go.Proofs.Ytmjaakngiilmdaa
/-
Make, the document's rounding by steps, comes to the nearest number: of numbers below 0. Conditions: the digits are below 2^62 and not 0, the place within -1200 and 2000.
-/
set_option linter.unusedVariables false
namespace Go.Proofs.Ytmjaakngiilmdaa
open Go.RowKit
attribute [local go_sem ↓] ib_andNot_sign ib_and_frac ib_and_15 ib_and_1 ib_and_sign ib_and_inf ib_or

set_option maxHeartbeats 1000000 in
theorem make_true (m : Nat) (e : Int) (w : World) (hm0 : m ≠ 0) (hm : m < 4611686018427387904) (he1 : -1200 ≤ e) (he2 : e ≤ 2000) :
    Calls Try.prog 84 #[.bool true, .int .u64 m, .int .i64 e] w fun z w' => z = .returned (.float .f64 (mk true m e)) ∧ w = w' := by
  have t0 : ((m : Int) == 0) = false := by simp; omega
  have t1 : decide (e < -1200) = false := by simp; omega
  have t2 : decide (2000 < e) = false := by simp; omega
  have H0 := Lib.hid hm0
  clear hm0
  go_enter Try.func84, Try.ntmps84
  go_wp2
  go_loop [1, 2] (fun a b => ∃ (M : Nat) (E : Int), a = .int .u64 M ∧ b = .int .i64 E ∧ M < 4611686018427387904 ∧ -1200 ≤ E ∧ E ≤ 2000 ∧ Up1 m e M E) (fun _ b => (intOf b + 1200).toNat)
  case atStart => exact ⟨m, e, rfl, rfl, hm, he1, he2, Up1.start m e⟩
  case round =>
    obtain ⟨M, E, rfl, rfl, hM, hE1, hE2, hP⟩ := hrel
    by_cases c : M < 4503599627370496 ∧ -1074 < E
    · have HP := Lib.hid (hP.step c.1 c.2)
      have b1 : decide ((M : Int) < 4503599627370496) = true := by simp; omega
      have b2 : decide (-1074 < E) = true := by simp; omega
      clear hP
      obtain ⟨c1, c2⟩ := c
      go_wp2
      go_round
      case rel => exact ⟨M * 2, E - 1, by go_num, by go_num, by omega, by omega, by omega, HP.out⟩
      case measure => simp [intOf]; omega
    · have hs := hP.scl
      have h3 : 4503599627370496 ≤ M ∨ E ≤ -1074 := by omega
      have HS := Lib.hid hs
      have H3 := Lib.hid h3
      clear hs h3 hP
      have hb : (decide ((M : Int) < 4503599627370496) = true ∧ decide (-1074 < E) = false) ∨ decide ((M : Int) < 4503599627370496) = false := by simp; omega
      clear c
      rcases hb with ⟨b1, b2⟩ | b1
      all_goals
        go_wp2
        clear b1
        try clear b2
        go_loop [1, 2, 8, 9] (fun a b c d => ∃ (N : Nat) (F : Int) (lost half : Bool), a = .int .u64 N ∧ b = .int .i64 F ∧ c = .bool lost ∧ d = .bool half ∧ N < 4611686018427387904 ∧ -1200 ≤ F ∧ F ≤ 5000 ∧ Down2 M E N F lost half) (fun a b _ _ => (intOf a).toNat + (-1074 - intOf b).toNat)
        case atStart => exact ⟨M, E, false, false, rfl, rfl, rfl, rfl, hM, hE1, by omega, Down2.start M E⟩
        case round =>
          obtain ⟨N, F, lost, half, rfl, rfl, rfl, rfl, hN, hF1, hF2, hD⟩ := hrel
          by_cases c : 9007199254740992 ≤ N ∨ F < -1074
          · have HD := Lib.hid (hD.step c)
            have hF3 : F < 5000 := hD.bound hM hE2 c
            have hp : ((N : Int) % 2 == 1) = decide (N % 2 = 1) := by rw [Bool.eq_iff_iff]; simp; omega
            have hb : decide (9007199254740992 ≤ (N : Int)) = true ∨ (decide (9007199254740992 ≤ (N : Int)) = false ∧ decide (F < -1074) = true) := by simp; omega
            have hms : N / 2 + (-1074 - (F + 1)).toNat < N + (-1074 - F).toNat := by omega
            have HMS := Lib.hid hms
            clear hD c hms
            cases lost
            all_goals
              rcases hb with d1 | ⟨d1, d2⟩
              all_goals
                go_wp2
                go_round
                case rel => exact ⟨N / 2, F + 1, _, _, by go_num, rfl, rfl, rfl, by omega, by omega, by omega, HD.out⟩
                case measure => have := HMS.out; simp [intOf]; omega
          · have hk := hD.scl (by omega) (by omega) H3.out
            rw [← HS.out] at hk
            have hI := Fl.INF_val
            have hbits := mk_true hk.1
            have hN2 : N < 9007199254740992 := by omega
            have hF3 : -1074 ≤ F := by omega
            have hor := hk.2
            have b1 : decide (9007199254740992 ≤ (N : Int)) = false := by simp; omega
            have b2 : decide (F < -1074) = false := by simp; omega
            have hc : (half = false ∧ mk true m e = 9223372036854775808 + min ((F + 1074).toNat * 4503599627370496 + N) 9218868437227405312) ∨
                (half = true ∧ lost = true ∧ mk true m e = 9223372036854775808 + min ((F + 1074).toNat * 4503599627370496 + (N + 1)) 9218868437227405312) ∨
                (half = true ∧ lost = false ∧ ((N : Int) % 2 == 1) = true ∧ mk true m e = 9223372036854775808 + min ((F + 1074).toNat * 4503599627370496 + (N + 1)) 9218868437227405312) ∨
                (half = true ∧ lost = false ∧ ((N : Int) % 2 == 1) = false ∧ mk true m e = 9223372036854775808 + min ((F + 1074).toNat * 4503599627370496 + N) 9218868437227405312) := by
              cases half
              · left; simpa using hbits
              · right
                cases lost
                · right
                  by_cases hp : N % 2 = 1
                  · left; rw [if_pos (by simp [hp])] at hbits; exact ⟨rfl, rfl, by simp; omega, hbits⟩
                  · right; rw [if_neg (by simp [hp])] at hbits; exact ⟨rfl, rfl, by simp; omega, hbits⟩
                · left; rw [if_pos (by simp)] at hbits; exact ⟨rfl, rfl, hbits⟩
            have H0R := Lib.hid hor
            clear hbits hk hD c hor hI
            have hA : ((N : Int) == 9007199254740992) = false := by simp; omega
            have hA2 : decide (2047 ≤ F + 1075) = true ∨ (decide (2047 ≤ F + 1075) = false ∧ (decide ((N : Int) < 4503599627370496) = true ∨ decide ((N : Int) < 4503599627370496) = false)) := by simp; omega
            have hB : (((N : Int) + 1 == 9007199254740992) = true ∧ (decide (2047 ≤ F + 1 + 1075) = true ∨ (decide (2047 ≤ F + 1 + 1075) = false ∧ decide (((N : Int) + 1) / 2 < 4503599627370496) = false))) ∨
                (((N : Int) + 1 == 9007199254740992) = false ∧ (decide (2047 ≤ F + 1075) = true ∨ (decide (2047 ≤ F + 1075) = false ∧ (decide ((N : Int) + 1 < 4503599627370496) = true ∨ decide ((N : Int) + 1 < 4503599627370496) = false)))) := by simp; omega
            rcases hc with ⟨rfl, hb⟩ | ⟨rfl, rfl, hb⟩ | ⟨rfl, rfl, p1, hb⟩ | ⟨rfl, rfl, p1, hb⟩
            · have HB := Lib.hid hb
              clear hb hB
              rcases hA2 with q | ⟨q, q2 | q2⟩
              all_goals
                go_wp2
                go_ret
                refine ⟨ret_float ?_, rfl⟩
                have h1 := HB.out
                have h2 := H0R.out
                rw [h1]
                simp only [decide_eq_true_eq, decide_eq_false_iff_not, beq_eq_false_iff_ne, ne_eq] at *
                try simp only [IntKind.wrap_u64]
                omega
            · have HB := Lib.hid hb
              clear hb hA2 hA
              rcases hB with ⟨q0, q | ⟨q, q2⟩⟩ | ⟨q0, q | ⟨q, q2 | q2⟩⟩
              all_goals
                go_wp2
                go_ret
                refine ⟨ret_float ?_, rfl⟩
                have h1 := HB.out
                have h2 := H0R.out
                rw [h1]
                simp only [decide_eq_true_eq, decide_eq_false_iff_not, beq_iff_eq, beq_eq_false_iff_ne, ne_eq] at *
                try simp only [IntKind.wrap_u64]
                omega
            · have HB := Lib.hid hb
              clear hb hA2 hA
              rcases hB with ⟨q0, q | ⟨q, q2⟩⟩ | ⟨q0, q | ⟨q, q2 | q2⟩⟩
              all_goals
                go_wp2
                go_ret
                refine ⟨ret_float ?_, rfl⟩
                have h1 := HB.out
                have h2 := H0R.out
                rw [h1]
                simp only [decide_eq_true_eq, decide_eq_false_iff_not, beq_iff_eq, beq_eq_false_iff_ne, ne_eq] at *
                try simp only [IntKind.wrap_u64]
                omega
            · have HB := Lib.hid hb
              clear hb hB
              rcases hA2 with q | ⟨q, q2 | q2⟩
              all_goals
                go_wp2
                go_ret
                refine ⟨ret_float ?_, rfl⟩
                have h1 := HB.out
                have h2 := H0R.out
                rw [h1]
                simp only [decide_eq_true_eq, decide_eq_false_iff_not, beq_eq_false_iff_ne, ne_eq] at *
                try simp only [IntKind.wrap_u64]
                omega
end Go.Proofs.Ytmjaakngiilmdaa
