/-
Make, the document's rounding, comes to the nearest number. Conditions: the digits are below 2^62, the place far from the ends of int.
-/
import Derived.Test.YtlhdcajamempoaaGn
set_option linter.unusedVariables false
namespace Go.Proofs.Ytlhdcajamempoaa
open Go.RowKit
attribute [local go_sem ↓] ib_andNot_sign ib_and_frac ib_and_15 ib_and_1 ib_and_sign ib_and_inf ib_or

end Go.Proofs.Ytlhdcajamempoaa
/-
What Two, Up, Down come to, and the document's Same, Finite, Exp, Scale, Up. Conditions: the words are below 2^64.
-/
set_option linter.unusedVariables false
namespace Go.Proofs.Ytlhdcajamempoaa
open Go.RowKit
attribute [local go_sem ↓] ib_andNot_sign ib_and_frac ib_and_15 ib_and_1 ib_and_sign ib_and_inf ib_or

/-- The word above. -/
def upB (b : Nat) : Nat := if Fl.INF < Fl.rung b ∨ b = Fl.INF then b else if Fl.rung b = 0 then 1 else if Fl.sg b then b - 1 else b + 1

theorem sg_true {b : Nat} (h : Fl.sg b = true) : 9223372036854775808 ≤ b := by
  unfold Fl.sg at h; simp at h; omega

/-- A word with the other sign. -/
def negB (b : Nat) : Nat := Op.negFloat .f64 b
theorem unary_neg (b : Nat) : Op.unary .neg (.float .f64 b) = pure (.float .f64 (negB b)) := rfl
attribute [go_sem ↓] unary_neg
theorem xor_sign {r : Nat} (h : r < 9223372036854775808) : r ^^^ 2 ^ 63 = 2 ^ 63 + r := by
  refine Nat.eq_of_testBit_eq fun i => ?_
  rw [Nat.testBit_xor, Nat.testBit_two_pow]
  rcases Nat.lt_trichotomy i 63 with h1 | h1 | h1
  · rw [Nat.testBit_two_pow_add_gt h1]
    have : decide (63 = i) = false := by simp; omega
    rw [this]; simp
  · subst h1
    rw [Nat.testBit_two_pow_add_eq]; simp
  · have h2 : 2 ^ 64 ≤ 2 ^ i := Nat.pow_le_pow_right (by omega) (by omega)
    rw [Nat.testBit_lt_two_pow (by omega), Nat.testBit_lt_two_pow (by omega)]
    simp; omega
theorem negB_eq {b : Nat} (hb : b < 18446744073709551616) : negB b = Fl.wd (!Fl.sg b) (Fl.rung b) := by
  show b ^^^ 2 ^ 63 = _
  have hr := rung_def b
  cases hs : Fl.sg b
  · have : b < 9223372036854775808 := by unfold Fl.sg at hs; simp at hs; omega
    rw [xor_sign this, show Fl.rung b = b by omega]
    simp [Fl.wd]
  · have h1 := sg_true hs
    have h2 : b = 2 ^ 63 + Fl.rung b := by omega
    have h3 := xor_sign (Fl.rung_lt b)
    rw [← h3] at h2
    rw [h2, Nat.xor_assoc, Nat.xor_self, Nat.xor_zero, h3]
    have : Fl.rung (2 ^ 63 + Fl.rung b) = Fl.rung b := by rw [rung_def, rung_def]; omega
    rw [this]
    simp [Fl.wd]
theorem negB_lt {b : Nat} (hb : b < 18446744073709551616) : negB b < 18446744073709551616 := by rw [negB_eq hb]; exact Fl.wd_lt _ (Fl.rung_lt b)
theorem upB_lt {b : Nat} (hb : b < 18446744073709551616) : upB b < 18446744073709551616 := by
  have hr := rung_def b
  have hI := Fl.INF_val
  unfold upB; split
  · exact hb
  · split
    · omega
    · split
      · omega
      · rename_i h1 h2 h3
        have : b < 9223372036854775808 := by unfold Fl.sg at h3; simp at h3; omega
        omega

/-- The document's Same. -/
theorem rsame_any (a b : Nat) (w : World) (ha : a < 18446744073709551616) (hb : b < 18446744073709551616) :
    Calls Try.prog 64 #[.float .f64 a, .float .f64 b] w fun e w' => e = .returned (.bool (sameB a b)) ∧ w = w' := by
  have k2 : ∀ x, (kindOf x == 2) = Fl.nan x := by
    intro x
    unfold kindOf Fl.nan
    rw [Bool.eq_iff_iff, beq_iff_eq, decide_eq_true_eq]
    split
    · omega
    · split <;> omega
  have ka := k2 a
  have kb := k2 b
  clear k2
  have hc : (((a : Int) == (b : Int)) = true ∧ sameB a b = true) ∨ (((a : Int) == (b : Int)) = false ∧ ((Fl.nan a = true ∧ sameB a b = Fl.nan b) ∨ (Fl.nan a = false ∧ sameB a b = false))) := by
    by_cases h : a = b
    · exact .inl ⟨by simp [h], by simp [sameB, h]⟩
    · refine .inr ⟨by simp; omega, ?_⟩
      cases hn : Fl.nan a
      · exact .inr ⟨rfl, by simp [sameB, h, hn]⟩
      · exact .inl ⟨rfl, by simp [sameB, h, hn]⟩
  rcases hc with ⟨h1, h2⟩ | ⟨h1, ⟨h3, h2⟩ | ⟨h3, h2⟩⟩
  all_goals
    rw [h2]
    try rw [h3] at ka
    clear h2
    try clear h3
    go_enter Try.func64, Try.ntmps64
    go_wp2_with fail
    refine (parts_any a _ ha).mono ?_
    rintro e w' ⟨rfl, rfl⟩
    go_wp2_with fail
    refine (parts_any b _ hb).mono ?_
    rintro e w' ⟨rfl, rfl⟩
    go_wp2
    go_ret
    exact ⟨rfl, rfl⟩

theorem kind_cases (b : Nat) : ((kindOf b != 0) = true ∧ expOf b = 0) ∨ ((kindOf b != 0) = false ∧ (partM b == 0) = true ∧ expOf b = 0) ∨
      ((kindOf b != 0) = false ∧ (partM b == 0) = false ∧ ∃ (m : Nat) (u : Nat), partM b = m ∧ m ≠ 0 ∧ m < 9007199254740992 ∧ u ≤ 2045 ∧ partE b = (u : Int) - 1074 ∧ expOf b = (m.log2 : Int) + (u : Int) - 1074) := by
  have hp := Fl.rung_parts b
  have hl := Fl.pm_lt b
  have hq := Fl.pm_pe b
  unfold kindOf partM partE expOf
  by_cases h1 : Fl.rung b < Fl.INF
  · have hu := Fl.pe_lt h1
    rw [if_pos h1, if_pos h1, if_pos h1]
    right
    by_cases h2 : Fl.pm b = 0
    · left; refine ⟨rfl, by simp [h2], if_pos (.inl (by omega))⟩
    · right; refine ⟨rfl, by simp; omega, Fl.pm b, Fl.pe b, rfl, h2, hl, hu, rfl, if_neg (by omega)⟩
  · left
    rw [if_neg h1]
    refine ⟨?_, if_pos (.inr (by omega))⟩
    split <;> rfl

end Go.Proofs.Ytlhdcajamempoaa
/-
What the document's Finite, Scale, Up come to. Conditions: the words are below 2^64.
-/
set_option linter.unusedVariables false
namespace Go.Proofs.Ytlhdcajamempoaa
open Go.RowKit
attribute [local go_sem ↓] ib_andNot_sign ib_and_frac ib_and_15 ib_and_1 ib_and_sign ib_and_inf ib_or

theorem kind_fin {b : Nat} : (kindOf b != 0) = !Fl.fin b := by
  unfold kindOf Fl.fin
  by_cases h : Fl.rung b < Fl.INF
  · rw [if_pos h]; simp [h]
  · rw [if_neg h]; split <;> simp [h]

set_option maxHeartbeats 400000 in
theorem rfinite_any (b off c : Nat) (zs : List Nat) (w : World) (hl : zs.length ≤ 9223372036854775807) (hw : Words zs) (hc : Holds w b off zs) :
    Calls Try.prog 30 #[.slice (some ⟨b, off, none⟩) zs.length c] w fun e w' => e = .returned (.bool (zs.all Fl.fin)) ∧ w = w' := by
  generalize hn : zs.length = n at *
  have HN := Lib.hid hn
  have HW := Lib.hid hw
  have HC := Lib.hid hc
  clear hn hw hc
  go_enter Try.func30, Try.ntmps30
  go_wp2
  go_loop [3] (fun i => ∃ k : Nat, k ≤ n ∧ i = .int .i64 k ∧ (zs.take k).all Fl.fin = true) (fun i => n - (intOf i).toNat)
  case atStart => exact ⟨0, Nat.zero_le _, rfl, by simp⟩
  case round =>
    obtain ⟨k, hk, rfl, ha⟩ := hrel
    have HA := Lib.hid ha
    clear ha
    by_cases hlt : k < n
    · have hlz : k < zs.length := by rw [HN.out]; exact hlt
      have hcell := HC.out k zs[k] (by simp [hlz])
      have hword := HW.out zs[k] (List.getElem_mem hlz)
      have hbit := @kind_fin zs[k]
      have hstep := all_take zs k hlz
      rw [HA.out] at hstep
      generalize zs[k] = z at *
      have HS := Lib.hid hstep
      have HX := Lib.hid hword
      clear hstep hlz hword
      by_cases hf : Fl.fin z = true
      · rw [hf] at hbit
        have HF := Lib.hid hf
        clear hf
        go_wp2_with (go_at_call 68; refine (parts_any z _ HX.out).mono ?_; rintro e w' ⟨rfl, rfl⟩)
        go_round
        case rel => exact ⟨k + 1, by omega, by go_num, by rw [HS.out, HF.out]; rfl⟩
        case measure => simp [intOf]; omega
      · have hf' : Fl.fin z = false := by simpa using hf
        rw [hf'] at hbit
        have HF := Lib.hid hf'
        clear hf hf'
        go_wp2_with (go_at_call 68; refine (parts_any z _ HX.out).mono ?_; rintro e w' ⟨rfl, rfl⟩)
        go_ret
        refine ⟨ret_bool ?_, rfl⟩
        have h1 := HS.out
        rw [HF.out] at h1
        exact (all_of_take h1).symm
    · go_wp2_with fail
      go_ret
      exact ⟨ret_bool (by rw [← HA.out, List.take_of_length_le (by have := HN.out; omega)]), rfl⟩

theorem rscale_val (b : Nat) (k : Int) (K : Int) (hb : b < 18446744073709551616) (hf : Fl.rung b < Fl.INF) (hK : K = k ∨ (5000 < k ∧ K = 5000) ∨ (k < -5000 ∧ K = -5000)) :
    mk (Fl.sg b) (Fl.pm b) ((Fl.pe b : Int) - 1074 + K) = Fl.scale b k := by
  have hp := Fl.rung_parts b
  have hl := Fl.pm_lt b
  have hu := Fl.pe_lt hf
  have he : Fl.scl (Fl.pm b) ((Fl.pe b : Int) + K) = Fl.scl (Fl.pm b) ((Fl.pe b : Int) + k) := by
    by_cases h0 : Fl.pm b = 0
    · rw [h0, Fl.scl_zero, Fl.scl_zero]
    · have low : ∀ j : Int, j ≤ -2000 → Fl.scl (Fl.pm b) j = 0 := by
        intro j hj
        refine Fl.scl_low _ _ ?_ (by omega)
        have : 2 ^ 55 ≤ 2 ^ (-j).toNat := Nat.pow_le_pow_right (by omega) (by omega)
        omega
      rcases hK with rfl | ⟨h1, rfl⟩ | ⟨h1, rfl⟩
      · rfl
      · rw [Fl.scl_high _ _ h0 (by omega), Fl.scl_high _ _ h0 (by omega)]
      · rw [low _ (by omega), low _ (by omega)]
  unfold mk Fl.scale
  rw [show (Fl.pe b : Int) - 1074 + K + 1074 = (Fl.pe b : Int) + K by omega, he]
  by_cases h0 : Fl.rung b = 0
  · rw [if_pos (.inl h0)]
    have : Fl.pm b = 0 := by omega
    rw [this, Fl.scl_zero]
    have := Fl.wd_parts hb
    rw [h0] at this
    exact this
  · rw [if_neg (by omega), Fl.scale_parts]

end Go.Proofs.Ytlhdcajamempoaa
