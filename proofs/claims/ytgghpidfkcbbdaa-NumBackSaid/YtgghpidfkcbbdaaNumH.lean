/-
What the document's Up comes to. Conditions: the word is below 2^64.
-/
import Derived.Test.YtgghpidfkcbbdaaNumG
set_option linter.unusedVariables false
namespace Go.Proofs.Ytgghpidfkcbbdaa
open Go.RowKit

theorem mk_place {s : Bool} {m u : Nat} (h1 : m ≤ 9007199254740992) (h2 : 4503599627370496 ≤ m ∨ u = 0) (h3 : u * 4503599627370496 + m ≤ 9218868437227405312) (h4 : ((u : Int) - 1074 + 1074) = u) :
    mk s m ((u : Int) - 1074) = Fl.wd s (u * 4503599627370496 + m) := by
  unfold mk
  rw [h4, Fl.scl_exact' m u h1 h2]
  unfold Fl.cap
  rw [Fl.INF_val, Nat.min_eq_left h3]
theorem sg_wd_eq {b : Nat} (hb : b < 18446744073709551616) {s : Bool} (hs : Fl.sg b = s) : b = Fl.wd s (Fl.rung b) := by rw [← hs, Fl.wd_parts hb]
theorem wd_val (s : Bool) (r : Nat) : Fl.wd s r = if s then 9223372036854775808 + r else r := rfl

theorem rup_any (b : Nat) (w : World) (hb : b < 18446744073709551616) :
    Calls Try.prog 21 #[.float .f64 b] w fun e w' => e = .returned (.float .f64 (upB b)) ∧ w = w' := by
  have hI := Fl.INF_val
  have hr := Fl.rung_lt b
  cases hs : Fl.sg b
  all_goals
    have hwd := sg_wd_eq hb hs
    rw [wd_val] at hwd
    have HS := Lib.hid hs
    by_cases h1 : Fl.INF < Fl.rung b
    · have hk : kindOf b = 2 := by unfold kindOf; rw [if_neg (by omega), if_neg (by omega)]
      have hu : upB b = b := by unfold upB; rw [if_pos (.inl h1)]
      rw [hu]
      have HK := Lib.hid hk
      clear hk hu h1 hI hr hwd hs
      go_enter Try.func21, Try.ntmps21
      go_wp2_with fail
      refine (parts_any b _ hb).mono ?_
      rintro e w' ⟨rfl, rfl⟩
      rw [HK.out, HS.out]
      go_wp2_with fail
      go_ret
      exact ⟨rfl, rfl⟩
    · by_cases h2 : Fl.rung b = Fl.INF
      · have hk : kindOf b = 1 := by unfold kindOf; rw [if_neg (by omega), if_pos h2]
        have hu : upB b = (if Fl.sg b then mk true 9007199254740991 971 else b) := by
          have e : mk true 9007199254740991 971 = 18442240474082181119 := by
            have := @mk_place true 9007199254740991 2045 (by omega) (by omega) (by omega) (by omega)
            rw [show ((2045 : Nat) : Int) - 1074 = 971 from rfl] at this
            rw [this, wd_val]; simp
          rw [hs]; unfold upB
          simp at hwd
          first
            | (rw [if_pos (by omega)]; simp; done)
            | (rw [if_neg (by omega), if_neg (by omega), if_pos hs, e]; simp; omega)
        rw [hu, hs]
        have HK := Lib.hid hk
        clear hk hu h1 h2 hI hr hwd hs
        go_enter Try.func21, Try.ntmps21
        go_wp2_with fail
        refine (parts_any b _ hb).mono ?_
        rintro e w' ⟨rfl, rfl⟩
        rw [HK.out, HS.out]
        go_wp2_with fail
        first
          | (go_ret
             exact ⟨rfl, rfl⟩)
          | (refine (make_int true 9007199254740991 971 _ (by omega) (by omega) (by omega) (by omega)).mono ?_
             rintro e w' ⟨rfl, rfl⟩
             go_wp2_with fail
             go_ret
             exact ⟨rfl, rfl⟩)
      · have hf : Fl.rung b < Fl.INF := by omega
        have hk : kindOf b = 0 := by unfold kindOf; rw [if_pos hf]
        have hm : partM b = (Fl.pm b : Int) := if_pos hf
        have he : partE b = (Fl.pe b : Int) - 1074 := if_pos hf
        have hp := Fl.rung_parts b
        have hl := Fl.pm_lt b
        have hq := Fl.pm_pe b
        have hpe := Fl.pe_lt hf
        have hb1 : ¬ (Fl.INF < Fl.rung b ∨ b = Fl.INF) := by
          simp at hwd
          rintro (h | h)
          · omega
          · have := rung_def b; omega
        have hu : upB b = if Fl.rung b = 0 then 1 else if Fl.sg b then b - 1 else b + 1 := by unfold upB; rw [if_neg hb1]
        have HK := Lib.hid hk
        have HM := Lib.hid hm
        have HE := Lib.hid he
        generalize Fl.pm b = m at *
        generalize Fl.pe b = u at *
        by_cases h0 : m = 0
        · have hz : Fl.rung b = 0 := by omega
          rw [if_pos hz] at hu
          rw [hu]
          have hv : mk false (1 : Int).toNat (-1074) = 1 := by
            have := @mk_place false 1 0 (by omega) (by omega) (by omega) (by omega)
            rw [show ((0 : Nat) : Int) - 1074 = -1074 from rfl] at this
            rw [show ((1 : Int).toNat) = 1 from rfl, this, wd_val]; simp
          have HV := Lib.hid hv
          have t0 : ((m : Int) == 0) = true := by simp [h0]
          clear hv hz h0 hu hb1 hk hm he hp hq h1 h2 hI hr hwd hs hf
          go_enter Try.func21, Try.ntmps21
          go_wp2_with fail
          refine (parts_any b _ hb).mono ?_
          rintro e w' ⟨rfl, rfl⟩
          rw [HK.out, HM.out, HE.out, HS.out]
          go_wp2_with fail
          refine (make_int _ _ _ _ (by omega) (by omega) (by omega) (by omega)).mono ?_
          rintro e w' ⟨rfl, rfl⟩
          go_wp2_with fail
          go_ret
          exact ⟨ret_float HV.out, rfl⟩
        · have hz : ¬ Fl.rung b = 0 := by omega
          have t0 : ((m : Int) == 0) = false := by simp; omega
          rw [if_neg hz, hs] at hu
          rw [hu]
          first
            | (have hv : mk false ((m : Int) + 1).toNat ((u : Int) - 1074) = b + 1 := by
                 have := @mk_place false (m + 1) u (by omega) (by omega) (by omega) (by omega)
                 rw [show ((m : Int) + 1).toNat = m + 1 by omega, this, wd_val]
                 simp at hwd ⊢; omega
               have HV := Lib.hid hv
               clear hv hz h0 hu hb1 hk hm he hp hq h1 h2 hI hr hwd hs hf
               go_enter Try.func21, Try.ntmps21
               go_wp2_with fail
               refine (parts_any b _ hb).mono ?_
               rintro e w' ⟨rfl, rfl⟩
               rw [HK.out, HM.out, HE.out, HS.out]
               go_wp2_with fail
               refine (make_int _ _ _ _ (by omega) (by omega) (by omega) (by omega)).mono ?_
               rintro e w' ⟨rfl, rfl⟩
               go_wp2_with fail
               go_ret
               exact ⟨ret_float HV.out, rfl⟩)
            | (by_cases h3 : m = 4503599627370496 ∧ 0 < u
               · have hv : mk true 9007199254740991 ((u : Int) - 1074 - 1) = b - 1 := by
                   have := @mk_place true 9007199254740991 (u - 1) (by omega) (by omega) (by omega) (by omega)
                   rw [show (((u - 1 : Nat) : Int) - 1074) = (u : Int) - 1074 - 1 by omega] at this
                   rw [this, wd_val]
                   simp at hwd ⊢; omega
                 have HV := Lib.hid hv
                 have t1 : ((m : Int) == 4503599627370496) = true := by simp; omega
                 have t2 : decide (-1074 < (u : Int) - 1074) = true := by simp; omega
                 clear hv hz h0 hu hb1 hk hm he hp hq h1 h2 hI hr hwd hs hf h3
                 go_enter Try.func21, Try.ntmps21
                 go_wp2_with fail
                 refine (parts_any b _ hb).mono ?_
                 rintro e w' ⟨rfl, rfl⟩
                 rw [HK.out, HM.out, HE.out, HS.out]
                 go_wp2_with fail
                 refine (make_int _ _ _ _ (by omega) (by omega) (by omega) (by omega)).mono ?_
                 rintro e w' ⟨rfl, rfl⟩
                 go_wp2_with fail
                 go_ret
                 exact ⟨ret_float HV.out, rfl⟩
               · have hv : mk true (m - 1) ((u : Int) - 1074) = b - 1 := by
                   have := @mk_place true (m - 1) u (by omega) (by omega) (by omega) (by omega)
                   rw [this, wd_val]
                   simp at hwd ⊢; omega
                 have HV := Lib.hid hv
                 have hm1 : 1 ≤ m := by omega
                 have t1 : ((m : Int) == 4503599627370496) = false ∨ (((m : Int) == 4503599627370496) = true ∧ decide (-1074 < (u : Int) - 1074) = false) := by simp; omega
                 clear hv hz h0 hu hb1 hk hm he hp hq h1 h2 hI hr hwd hs hf h3
                 have HZ := Lib.hid (show ((m : Int) - 1).toNat = m - 1 by omega)
                 rcases t1 with t1 | ⟨t1, t2⟩
                 all_goals
                   go_enter Try.func21, Try.ntmps21
                   go_wp2_with fail
                   refine (parts_any b _ hb).mono ?_
                   rintro e w' ⟨rfl, rfl⟩
                   rw [HK.out, HM.out, HE.out, HS.out]
                   go_wp2_with fail
                   refine (make_int _ _ _ _ (by omega) (by omega) (by omega) (by omega)).mono ?_
                   rintro e w' ⟨rfl, rfl⟩
                   rw [HZ.out]
                   go_wp2_with fail
                   go_ret
                   exact ⟨ret_float HV.out, rfl⟩)
end Go.Proofs.Ytgghpidfkcbbdaa
