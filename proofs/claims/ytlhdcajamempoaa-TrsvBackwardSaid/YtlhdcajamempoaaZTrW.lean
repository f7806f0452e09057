/-
TrsvBackward, put together. Conditions: as each says.
-/
import Derived.Test.YtlhdcajamempoaaZTrV
set_option linter.unusedVariables false
set_option linter.unusedSimpArgs false
set_option linter.unnecessarySimpa false
namespace Go.Proofs.Ytlhdcajamempoaa
open Go.RowKit
attribute [local go_sem ↓] Go.wp_at_zero Go.wp_at_succ


set_option maxRecDepth 100000 in
set_option maxHeartbeats 4000000 in
theorem trb_bad (kd q : Nat) (Al : Option Addr) (nl cl : Nat) (l : List Nat) (Ab : Option Addr) (n cb : Nat) (b : List Nat) (w : World) (hAl : Row w Al (f64s l)) (hAb : Row w Ab (f64s b)) (hWl : Wds l) (hWb : Wds b) (hl : l.length = nl) (hb : b.length = n)
    (hq : q < 256) (hk : 1 + q % 4 = kd) (h : ¬ (1 ≤ n ∧ n ≤ 10 ∧ nl ≤ 200 ∧ l.all Fl.fin = true ∧ b.all Fl.fin = true)) :
    Calls Try.prog 6 #[.int .u8 (q : Int), .slice Al nl cl, .slice Ab n cb] w fun e w' => e = .returned (.bool true) ∧ Below w.heap.size w w' := by
  obtain ⟨s, HU⟩ := trb_ints hq hk
  obtain ⟨b1, hb1⟩ : ∃ b, decide (n < 1) = b := ⟨_, rfl⟩
  obtain ⟨b3, hb3⟩ : ∃ b, decide (10 < n) = b := ⟨_, rfl⟩
  obtain ⟨b5, hb5⟩ : ∃ b, decide (200 < nl) = b := ⟨_, rfl⟩
  have i1 : decide ((n : Int) < 1) = b1 := by rw [← hb1]; exact decide_eq_decide.2 (by omega)
  have i3 : decide ((10 : Int) < (n : Int)) = b3 := by rw [← hb3]; exact decide_eq_decide.2 (by omega)
  have i5 : decide ((200 : Int) < (nl : Int)) = b5 := by rw [← hb5]; exact decide_eq_decide.2 (by omega)
  cases b1
  rotate_left
  · clear hAl hAb hWl hWb hl hb hq hk h
    obtain ⟨c1, c2, ⟨u1, u2⟩, ⟨u3, u4⟩, ⟨u5, u6⟩⟩ := HU.out
    go_enter Try.func6, Try.ntmps6
    go_wp2_with fail
    refine (awake9_any _).mono ?_
    rintro e w1 ⟨rfl, hb⟩
    have HB1 := Lib.hid hb
    clear hb
    go_wp2_with fail
    refine (awake9_any _).mono ?_
    rintro e w9 ⟨rfl, hb⟩
    have HB9 := Lib.hid (below_nx HB1.out hb)
    clear hb
    go_wp2_with fail
    go_ret
    exact ⟨rfl, HB9.out⟩
  cases b3
  rotate_left
  · clear hAl hAb hWl hWb hl hb hq hk h
    obtain ⟨c1, c2, ⟨u1, u2⟩, ⟨u3, u4⟩, ⟨u5, u6⟩⟩ := HU.out
    go_enter Try.func6, Try.ntmps6
    go_wp2_with fail
    refine (awake9_any _).mono ?_
    rintro e w1 ⟨rfl, hb⟩
    have HB1 := Lib.hid hb
    clear hb
    go_wp2_with fail
    refine (awake9_any _).mono ?_
    rintro e w9 ⟨rfl, hb⟩
    have HB9 := Lib.hid (below_nx HB1.out hb)
    clear hb
    go_wp2_with fail
    go_ret
    exact ⟨rfl, HB9.out⟩
  cases b5
  rotate_left
  · clear hAl hAb hWl hWb hl hb hq hk h
    obtain ⟨c1, c2, ⟨u1, u2⟩, ⟨u3, u4⟩, ⟨u5, u6⟩⟩ := HU.out
    go_enter Try.func6, Try.ntmps6
    go_wp2_with fail
    refine (awake9_any _).mono ?_
    rintro e w1 ⟨rfl, hb⟩
    have HB1 := Lib.hid hb
    clear hb
    go_wp2_with fail
    refine (awake9_any _).mono ?_
    rintro e w9 ⟨rfl, hb⟩
    have HB9 := Lib.hid (below_nx HB1.out hb)
    clear hb
    go_wp2_with fail
    go_ret
    exact ⟨rfl, HB9.out⟩
  have g2 : 1 ≤ n := by have := of_decide_eq_false hb1; omega
  have g3 : n ≤ 10 := by have := of_decide_eq_false hb3; omega
  have g5 : nl ≤ 200 := by have := of_decide_eq_false hb5; omega
  obtain ⟨f1, hf1⟩ : ∃ b, l.all Fl.fin = b := ⟨_, rfl⟩
  obtain ⟨f2, hf2⟩ : ∃ c, b.all Fl.fin = c := ⟨_, rfl⟩
  rw [hf1, hf2] at h
  have HFl := Lib.hid (fun W (hb : Below w.heap.size w W) => show Calls Try.prog 30 #[.slice Al nl cl] W fun e w' => e = .returned (.bool f1) ∧ W = w' from by
    have := rfin_any Al nl cl l W (hAl.below hb) hWl hl (by omega)
    rw [hf1] at this; exact this)
  have HFb := Lib.hid (fun W (hb9 : Below w.heap.size w W) => show Calls Try.prog 30 #[.slice Ab n cb] W fun e w' => e = .returned (.bool f2) ∧ W = w' from by
    have := rfin_any Ab n cb b W (hAb.below hb9) hWb hb (by omega)
    rw [hf2] at this; exact this)

  have h6 : f1 = false ∨ f2 = false := by
    cases f1
    · exact .inl rfl
    cases f2
    · exact .inr rfl
    exact (h ⟨g2, g3, g5, rfl, rfl⟩).elim
  clear hAl hAb hWl hWb hl hb hq hk h g2 g3 g5 hf1 hf2
  cases f1
  · clear h6
    obtain ⟨c1, c2, ⟨u1, u2⟩, ⟨u3, u4⟩, ⟨u5, u6⟩⟩ := HU.out
    go_enter Try.func6, Try.ntmps6
    go_wp2_with fail
    refine (awake9_any _).mono ?_
    rintro e w1 ⟨rfl, hb⟩
    have HB1 := Lib.hid hb
    clear hb
    go_wp2_with fail
    refine (HFl.out _ HB1.out).mono ?_
    rintro e w1b ⟨rfl, rfl⟩
    go_wp2_with fail
    refine (awake9_any _).mono ?_
    rintro e w9 ⟨rfl, hb⟩
    have HB9 := Lib.hid (below_nx HB1.out hb)
    clear hb
    go_wp2_with fail
    go_ret
    exact ⟨rfl, HB9.out⟩
  have hf2 : f2 = false := by simpa using h6
  subst hf2
  clear h6
  obtain ⟨c1, c2, ⟨u1, u2⟩, ⟨u3, u4⟩, ⟨u5, u6⟩⟩ := HU.out
  go_enter Try.func6, Try.ntmps6
  go_wp2_with fail
  refine (awake9_any _).mono ?_
  rintro e w1 ⟨rfl, hb⟩
  have HB1 := Lib.hid hb
  clear hb
  go_wp2_with fail
  refine (HFl.out _ HB1.out).mono ?_
  rintro e w1b ⟨rfl, rfl⟩
  go_wp2_with fail
  refine (HFb.out _ HB1.out).mono ?_
  rintro e w1b ⟨rfl, rfl⟩
  go_wp2_with fail
  refine (awake9_any _).mono ?_
  rintro e w9 ⟨rfl, hb⟩
  have HB9 := Lib.hid (below_nx HB1.out hb)
  clear hb
  go_wp2_with fail
  go_ret
  exact ⟨rfl, HB9.out⟩

theorem trb_walk (q : Nat) (Al : Option Addr) (cl : Nat) (l : List Nat) (Ab : Option Addr) (cb : Nat) (b : List Nat) (w : World) (hAl : Row w Al (f64s l)) (hAb : Row w Ab (f64s b)) (hWl : Wds l) (hWb : Wds b) (hq : q < 256) :
    Calls Try.prog 6 #[.int .u8 (q : Int), .slice Al l.length cl, .slice Ab b.length cb] w fun e w' => e = .returned (.bool true) ∧ Below w.heap.size w w' := by
  by_cases h : 1 ≤ b.length ∧ b.length ≤ 10 ∧ l.length ≤ 200 ∧ l.all Fl.fin = true ∧ b.all Fl.fin = true
  · obtain ⟨h1, h2, h3, h4, h5⟩ := h
    exact trb_good _ (by omega) q Al _ cl l Ab _ cb b w hAl hAb hWl hWb rfl rfl hq rfl h1 h2 h3 h4 h5
  · exact trb_bad _ q Al _ cl l Ab _ cb b w hAl hAb hWl hWb rfl rfl hq rfl h
end Go.Proofs.Ytlhdcajamempoaa
