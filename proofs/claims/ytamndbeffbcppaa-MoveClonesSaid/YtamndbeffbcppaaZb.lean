/-
What digits, cut and join come to. Conditions: as each says.
-/
import Derived.Test.YtamndbeffbcppaaNumA
import Derived.Test.YtamndbeffbcppaaLen
import Derived.Deep.QuietTactic
import Derived.BigQuiet
import Derived.RegionTactic
set_option linter.unusedVariables false
namespace Go.Proofs.Ytamndbeffbcppaa
open Go.RowKit
attribute [local go_sem ↓] ib_andNot_sign ib_and_frac ib_and_15 ib_and_1 ib_and_sign ib_and_inf ib_or

theorem bitLen_log (x : Nat) (h0 : x ≠ 0) (h : x < 18446744073709551616) : Lib.bitLen x = x.log2 + 1 := by
  induction x using Nat.strongRecOn with
  | ind x ih =>
    rw [Lib.bitLen_half x h0 h, Nat.log2_def]
    by_cases h2 : 2 ≤ x
    · rw [if_pos h2, ih (x / 2) (by omega) (by omega) (by omega)]; omega
    · rw [if_neg h2]
      have : x = 1 := by omega
      subst this; rfl
theorem ret2_ui {a a' b b' : Int} (h1 : a = a') (h2 : b = b') : Ending.returned (.tuple #[.int .u64 a, .int .i64 b]) = .returned (.tuple #[.int .u64 a', .int .i64 b']) := by rw [h1, h2]

attribute [local go_sem ↓ low] ib_and

theorem two_pow_half (n : Nat) (hn : 1 ≤ n) : 2 ^ n = 2 * 2 ^ (n - 1) := by
  rw [show n = n - 1 + 1 by omega, Nat.pow_succ, show n - 1 + 1 - 1 = n - 1 by omega]; omega
theorem rne_half (m n : Nat) (hn : 1 ≤ n) : Fl.rne m n = m / 2 ^ n + if 2 ^ (n - 1) < m % 2 ^ n ∨ (2 ^ (n - 1) = m % 2 ^ n ∧ m / 2 ^ n % 2 = 1) then 1 else 0 := by
  unfold Fl.rne
  have h := two_pow_half n hn
  have a : 2 ^ n < 2 * (m % 2 ^ n) ↔ 2 ^ (n - 1) < m % 2 ^ n := by omega
  have b : 2 ^ n = 2 * (m % 2 ^ n) ↔ 2 ^ (n - 1) = m % 2 ^ n := by omega
  simp only [a, b]
theorem cut_eqs (m n : Nat) (hm : m < 9007199254740992) (hn : 1 ≤ n) (h : n ≤ 53) :
    andU (m : Int) (IntKind.u64.wrap (IntKind.u64.wrap (2 ^ n) - 1)) = ((m % 2 ^ n : Nat) : Int) ∧ IntKind.u64.wrap (2 ^ (n - 1)) = ((2 ^ (n - 1) : Nat) : Int) ∧ ((m : Int) / 2 ^ n) = ((m / 2 ^ n : Nat) : Int) := by
  have p1 : 2 ^ n ≤ 2 ^ 53 := Nat.pow_le_pow_right (by omega) h
  have p2 : 2 ^ (n - 1) ≤ 2 ^ 53 := Nat.pow_le_pow_right (by omega) (by omega)
  have p3 : 0 < 2 ^ n := Nat.two_pow_pos n
  have p4 : 0 < 2 ^ (n - 1) := Nat.two_pow_pos _
  have c1 : ((2 : Int) ^ n) = ((2 ^ n : Nat) : Int) := by simp
  have c2 : ((2 : Int) ^ (n - 1)) = ((2 ^ (n - 1) : Nat) : Int) := by simp
  refine ⟨?_, ?_, by rw [c1]; rfl⟩
  · rw [c1, IntKind.wrap_u64, IntKind.wrap_u64]
    rw [show (((2 ^ n : Nat) : Int) % 18446744073709551616 - 1) % 18446744073709551616 = ((2 ^ n - 1 : Nat) : Int) by omega]
    unfold andU
    rw [u64_and_nat _ _ (by omega) (by omega), and_mask]
  · rw [c2, IntKind.wrap_u64]; omega

theorem orU_shift {q r : Nat} (hq : q < 2048) (hr : r < 4503599627370496) : orU ((q : Int) * 4503599627370496) (r : Int) = ((q * 4503599627370496 + r : Nat) : Int) := by
  rw [show ((q : Int) * 4503599627370496) = ((q * 4503599627370496 : Nat) : Int) by omega]
  exact orU_nat 52 (by omega) (by omega) hr (by omega)

end Go.Proofs.Ytamndbeffbcppaa
/-
What the functions of package num come to that look at a list, or lay one. Conditions: the words are below 2^64.
-/
set_option linter.unusedVariables false
namespace Go.Proofs.Ytamndbeffbcppaa
open Go.RowKit
attribute [local go_sem ↓] ib_andNot_sign ib_and_frac ib_and_15 ib_and_1 ib_and_sign ib_and_inf ib_or

theorem fin_bits {z : Nat} (hz : z < 18446744073709551616) : ((z : Int) / 4503599627370496 % 2048 * 4503599627370496 == 9218868437227405312) = !Fl.fin z := by
  have hr := rung_def z
  have hI := Fl.INF_val
  unfold Fl.fin
  rw [Bool.eq_iff_iff, beq_iff_eq]
  simp only [Bool.not_eq_true', decide_eq_false_iff_not]
  omega

/-- The list's floats are words. -/
def Words (zs : List Nat) : Prop := ∀ z ∈ zs, z < 18446744073709551616
/-- The cells from off on in block b are the list's floats. -/
def Holds (w : World) (b off : Nat) (zs : List Nat) : Prop := ∀ (i : Nat) (z : Nat), zs[i]? = some z → w.cell? ⟨b, off + i, none⟩ = some (.float .f64 z)

theorem all_take (zs : List Nat) (k : Nat) (h : k < zs.length) : (zs.take (k + 1)).all Fl.fin = ((zs.take k).all Fl.fin && Fl.fin zs[k]) := by
  rw [List.take_succ_eq_append_getElem h, List.all_append]; simp

theorem all_of_take {zs : List Nat} {j : Nat} (h : (zs.take j).all Fl.fin = false) : zs.all Fl.fin = false := by
  rw [← List.take_append_drop j zs, List.all_append, h]; rfl

set_option maxHeartbeats 400000 in
theorem finite_any (b off c : Nat) (zs : List Nat) (w : World) (hl : zs.length ≤ 9223372036854775807) (hw : Words zs) (hc : Holds w b off zs) :
    Calls Try.prog 48 #[.slice (some ⟨b, off, none⟩) zs.length c] w fun e w' => e = .returned (.bool (zs.all Fl.fin)) ∧ w = w' := by
  generalize hn : zs.length = n at *
  have HN := Lib.hid hn
  have HW := Lib.hid hw
  have HC := Lib.hid hc
  clear hn hw hc
  go_enter Try.func48, Try.ntmps48
  go_wp2
  go_loop [7] (fun i => ∃ k : Nat, k ≤ n ∧ i = .int .i64 k ∧ (zs.take k).all Fl.fin = true) (fun i => n - (intOf i).toNat)
  case atStart => exact ⟨0, Nat.zero_le _, rfl, by simp⟩
  case round =>
    obtain ⟨k, hk, rfl, ha⟩ := hrel
    have HA := Lib.hid ha
    clear ha
    by_cases hlt : k < n
    · have hlz : k < zs.length := by rw [HN.out]; exact hlt
      have hcell := HC.out k zs[k] (by simp [hlz])
      have hword := HW.out zs[k] (List.getElem_mem hlz)
      have hbit := fin_bits hword
      have hstep := all_take zs k hlz
      rw [HA.out] at hstep
      generalize zs[k] = z at *
      clear hword
      have HS := Lib.hid hstep
      clear hstep hlz
      by_cases hf : Fl.fin z = true
      · rw [hf] at hbit
        have HF := Lib.hid hf
        clear hf
        go_wp2
        go_round
        case rel => exact ⟨k + 1, by omega, by go_num, by rw [HS.out, HF.out]; rfl⟩
        case measure => simp [intOf]; omega
      · have hf' : Fl.fin z = false := by simpa using hf
        rw [hf'] at hbit
        have HF := Lib.hid hf'
        clear hf hf'
        go_wp2
        go_ret
        refine ⟨ret_bool ?_, rfl⟩
        have h1 := HS.out
        rw [HF.out] at h1
        exact (all_of_take h1).symm
    · go_wp2
      go_ret
      exact ⟨ret_bool (by rw [← HA.out, List.take_of_length_le (by have := HN.out; omega)]), rfl⟩

theorem finite_one (g c : Nat) (b : Nat) (w : World) (hb : b < 18446744073709551616) (hc : w.cell? ⟨g, 0, none⟩ = some (.float .f64 b)) :
    Calls Try.prog 48 #[.slice (some ⟨g, 0, none⟩) 1 c] w fun e w' => e = .returned (.bool (Fl.fin b)) ∧ w = w' := by
  have h := finite_any g 0 c [b] w (by simp) (by intro z hz; simp at hz; omega) (by
    intro i z hz
    match i, hz with
    | 0, hz => simp at hz; subst hz; simpa using hc)
  simpa using h
theorem finite_two (g c : Nat) (a b : Nat) (w : World) (ha : a < 18446744073709551616) (hb : b < 18446744073709551616) (hc : w.cell? ⟨g, 0, none⟩ = some (.float .f64 a)) (hd : w.cell? ⟨g, 1, none⟩ = some (.float .f64 b)) :
    Calls Try.prog 48 #[.slice (some ⟨g, 0, none⟩) 2 c] w fun e w' => e = .returned (.bool (Fl.fin a && Fl.fin b)) ∧ w = w' := by
  have h := finite_any g 0 c [a, b] w (by simp) (by intro z hz; simp at hz; omega) (by
    intro i z hz
    match i, hz with
    | 0, hz => simp at hz; subst hz; simpa using hc
    | 1, hz => simp at hz; subst hz; simpa using hd)
  simpa using h
theorem finite_nil (c : Nat) (w : World) :
    Calls Try.prog 48 #[.slice none 0 c] w fun e w' => e = .returned (.bool true) ∧ w = w' := by
  go_enter Try.func48, Try.ntmps48
  go_wp2
  go_loop [7] (fun i => i = .int .i64 0) (fun _ => 0)
  case atStart => rfl
  case round =>
    subst hrel
    go_wp2
    go_ret
    exact ⟨rfl, rfl⟩

/-- The exponent of a word. -/
def expOf (b : Nat) : Int := if Fl.rung b = 0 ∨ Fl.INF ≤ Fl.rung b then 0 else ((Fl.pm b).log2 : Int) + (Fl.pe b : Int) - 1074

end Go.Proofs.Ytamndbeffbcppaa
