/-
NumNext, walked: it returns true. Conditions: the word is below 2^64.
-/
import Derived.Test.YtgghpidfkcbbdaaTells
import Derived.Test.YtgghpidfkcbbdaaFlC
set_option linter.unusedVariables false
namespace Go.Proofs.Ytgghpidfkcbbdaa
open Go.RowKit

theorem negB_rung {b : Nat} (hb : b < 18446744073709551616) : Fl.rung (negB b) = Fl.rung b := by rw [negB_eq hb, Fl.rung_wd _ (Fl.rung_lt b)]
theorem negB_key {b : Nat} (hb : b < 18446744073709551616) : Fl.key (negB b) = -Fl.key b := by
  rw [negB_eq hb, Fl.key_wd _ (Fl.rung_lt b)]
  unfold Fl.key; cases Fl.sg b <;> simp
theorem upB_key {b : Nat} (hb : b < 18446744073709551616) (h : Fl.rung b < Fl.INF) : Fl.key (upB b) = Fl.key b + 1 ∧ Fl.rung (upB b) ≤ Fl.INF := by
  have hI := Fl.INF_val
  have hr := rung_def b
  have hne : ¬ (Fl.INF < Fl.rung b ∨ b = Fl.INF) := by omega
  unfold upB
  rw [if_neg hne]
  by_cases h0 : Fl.rung b = 0
  · rw [if_pos h0]
    have : Fl.key b = 0 := by unfold Fl.key; rw [h0]; simp
    rw [this]
    exact ⟨by decide, by decide⟩
  · rw [if_neg h0]
    cases hs : Fl.sg b
    · have hlt : b < 9223372036854775808 := by unfold Fl.sg at hs; simp at hs; omega
      have e : b + 1 = Fl.wd false (Fl.rung b + 1) := by unfold Fl.wd; simp; omega
      simp only [Bool.false_eq_true, if_false]
      rw [e, Fl.key_wd _ (by omega), Fl.rung_wd _ (by omega)]
      refine ⟨?_, by omega⟩
      unfold Fl.key; rw [hs]; simp
    · have hge := sg_true hs
      have e : b - 1 = Fl.wd true (Fl.rung b - 1) := by unfold Fl.wd; simp; omega
      simp only [if_true]
      rw [e, Fl.key_wd _ (by omega), Fl.rung_wd _ (by omega)]
      refine ⟨?_, by omega⟩
      unfold Fl.key; rw [hs]; simp; omega

theorem next_facts {b : Nat} (hb : b < 18446744073709551616) (hf : (Fl.fin b && (Fl.fin (upB b) && Fl.fin (negB (upB (negB b))))) = true) :
    (FloatKind.f64.format.order (negB (upB (negB b))) b == some .lt) = true ∧ (FloatKind.f64.format.order b (upB b) == some .lt) = true ∧
    (FloatKind.f64.format.order (negB (upB (negB (upB b)))) b == some .eq) = true ∧ (FloatKind.f64.format.order (upB (negB (upB (negB b)))) b == some .eq) = true := by
  have hn := negB_lt hb
  have hu := upB_lt hb
  have hun := upB_lt hn
  have hnun := negB_lt hun
  simp only [Bool.and_eq_true, Fl.fin, decide_eq_true_eq] at hf
  obtain ⟨f1, f2, f3⟩ := hf
  have k1 := upB_key hb f1
  have k2 := upB_key hn (by rw [negB_rung hb]; exact f1)
  rw [negB_key hb] at k2
  have kd := negB_key hun
  have k3 := upB_key (negB_lt hu) (by rw [negB_rung hu]; exact f2)
  rw [negB_key hu] at k3
  have ke := negB_key (upB_lt (negB_lt hu))
  have re := negB_rung (upB_lt (negB_lt hu))
  have k4 := upB_key hnun f3
  refine ⟨?_, ?_, ?_, ?_⟩
  · rw [Fl.lss_of (by omega) (by omega)]; simp; omega
  · rw [Fl.lss_of (by omega) (by omega)]; simp; omega
  · rw [Fl.eql_of (by omega) (by omega)]; simp; omega
  · rw [Fl.eql_of (by omega) (by omega)]; simp; omega

theorem numNext_walk (b : Nat) (w : World) (hb : b < 18446744073709551616) :
    Calls Try.prog 5 #[.float .f64 b] w fun e w' => e = .returned (.bool true) ∧ Below w.heap.size w w' := by
  have hn := negB_lt hb
  have hu := upB_lt hb
  have hun := upB_lt hn
  have hnun := negB_lt hun
  have hnf := @next_facts b hb
  have s1 : sameB (upB b) (upB b) = true := by simp [sameB]
  have s2 : sameB (negB (upB (negB b))) (negB (upB (negB b))) = true := by simp [sameB]
  have HN := Lib.hid hn
  have HU := Lib.hid hu
  have HUN := Lib.hid hun
  have HD := Lib.hid hnun
  have HF := Lib.hid hnf
  have S1 := Lib.hid s1
  have S2 := Lib.hid s2
  clear hn hu hun hnun hnf s1 s2
  go_enter Try.func5, Try.ntmps5
  go_wp2_with fail
  refine (awake_any _).mono ?_
  rintro e w1 ⟨rfl, b1⟩
  go_wp2_with fail
  refine (up_any b _ hb).mono ?_
  rintro e w' ⟨rfl, rfl⟩
  go_wp2_with fail
  refine (down_any b _ hb).mono ?_
  rintro e w' ⟨rfl, rfl⟩
  go_wp2_with fail
  refine (rup_any b _ hb).mono ?_
  rintro e w' ⟨rfl, rfl⟩
  go_wp2_with fail
  refine (rsame_any _ _ _ HU.out HU.out).mono ?_
  rintro e w' ⟨rfl, rfl⟩
  rw [S1.out]
  go_wp2_with fail
  refine (rup_any (negB b) _ HN.out).mono ?_
  rintro e w' ⟨rfl, rfl⟩
  go_wp2_with fail
  refine (rsame_any _ _ _ HD.out HD.out).mono ?_
  rintro e w' ⟨rfl, rfl⟩
  rw [S2.out]
  go_wp2_with fail
  refine (rfinite_three _ _ b (upB b) (negB (upB (negB b))) _ hb HU.out HD.out (by simp) (by simp) (by simp)).mono ?_
  rintro e w' ⟨rfl, rfl⟩
  cases hf : (Fl.fin b && (Fl.fin (upB b) && Fl.fin (negB (upB (negB b)))))
  · clear hf
    go_wp2_with fail
    refine (awake_any _).mono ?_
    rintro e w2 ⟨rfl, b2⟩
    go_wp2_with fail
    go_ret
    exact ⟨rfl, (b1.alloc b1.size _).trans (b2.mono (by have := b1.size; simp; omega))⟩
  · obtain ⟨f1, f2, f3, f4⟩ := HF.out hf
    have F4 := Lib.hid f4
    have F3 := Lib.hid f3
    clear hf f3 f4
    go_wp2_with fail
    refine (down_any (upB b) _ HU.out).mono ?_
    rintro e w' ⟨rfl, rfl⟩
    have f3 := F3.out
    go_wp2_with fail
    clear f3
    refine (up_any (negB (upB (negB b))) _ HD.out).mono ?_
    rintro e w' ⟨rfl, rfl⟩
    have f4 := F4.out
    go_wp2_with fail
    refine (awake_any _).mono ?_
    rintro e w2 ⟨rfl, b2⟩
    go_wp2_with fail
    go_ret
    exact ⟨rfl, (b1.alloc b1.size _).trans (b2.mono (by have := b1.size; simp; omega))⟩
end Go.Proofs.Ytgghpidfkcbbdaa
