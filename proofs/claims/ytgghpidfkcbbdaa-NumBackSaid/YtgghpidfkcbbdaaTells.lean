/-
NumTells, walked: it returns true. Conditions: the words are below 2^64.
-/
import Derived.Test.YtgghpidfkcbbdaaScales
set_option linter.unusedVariables false
namespace Go.Proofs.Ytgghpidfkcbbdaa
open Go.RowKit

theorem rfinite_one (g c : Nat) (b : Nat) (w : World) (hb : b < 18446744073709551616) (hc : w.cell? ⟨g, 0, none⟩ = some (.float .f64 b)) :
    Calls Try.prog 13 #[.slice (some ⟨g, 0, none⟩) 1 c] w fun e w' => e = .returned (.bool (Fl.fin b)) ∧ w = w' := by
  have h := rfinite_any g 0 c [b] w (by simp) (by intro z hz; simp at hz; omega) (by
    intro i z hz
    match i, hz with
    | 0, hz => simp at hz; subst hz; simpa using hc)
  simpa using h
theorem rfinite_two (g c : Nat) (a b : Nat) (w : World) (ha : a < 18446744073709551616) (hb : b < 18446744073709551616) (hc : w.cell? ⟨g, 0, none⟩ = some (.float .f64 a)) (hd : w.cell? ⟨g, 1, none⟩ = some (.float .f64 b)) :
    Calls Try.prog 13 #[.slice (some ⟨g, 0, none⟩) 2 c] w fun e w' => e = .returned (.bool (Fl.fin a && Fl.fin b)) ∧ w = w' := by
  have h := rfinite_any g 0 c [a, b] w (by simp) (by intro z hz; simp at hz; omega) (by
    intro i z hz
    match i, hz with
    | 0, hz => simp at hz; subst hz; simpa using hc
    | 1, hz => simp at hz; subst hz; simpa using hd)
  simpa using h
theorem rfinite_three (g c : Nat) (a b d : Nat) (w : World) (ha : a < 18446744073709551616) (hb : b < 18446744073709551616) (hd : d < 18446744073709551616) (h0 : w.cell? ⟨g, 0, none⟩ = some (.float .f64 a)) (h1 : w.cell? ⟨g, 1, none⟩ = some (.float .f64 b)) (h2 : w.cell? ⟨g, 2, none⟩ = some (.float .f64 d)) :
    Calls Try.prog 13 #[.slice (some ⟨g, 0, none⟩) 3 c] w fun e w' => e = .returned (.bool (Fl.fin a && (Fl.fin b && Fl.fin d))) ∧ w = w' := by
  have h := rfinite_any g 0 c [a, b, d] w (by simp) (by intro z hz; simp at hz; omega) (by
    intro i z hz
    match i, hz with
    | 0, hz => simp at hz; subst hz; simpa using h0
    | 1, hz => simp at hz; subst hz; simpa using h1
    | 2, hz => simp at hz; subst hz; simpa using h2)
  simpa using h

theorem numTells_walk (a b : Nat) (w : World) (ha : a < 18446744073709551616) (hb : b < 18446744073709551616) :
    Calls Try.prog 3 #[.float .f64 a, .float .f64 b] w fun e w' => e = .returned (.bool true) ∧ Below w.heap.size w w' := by
  go_enter Try.func3, Try.ntmps3
  go_wp2_with fail
  refine (awake_any _).mono ?_
  rintro e w1 ⟨rfl, b1⟩
  go_wp2_with fail
  refine (same_any a b _).mono ?_
  rintro e w' ⟨rfl, rfl⟩
  go_wp2_with fail
  refine (rsame_any a b _ ha hb).mono ?_
  rintro e w' ⟨rfl, rfl⟩
  generalize sameB a b = s
  cases s
  all_goals
    go_wp2_with fail
    refine (finite_two _ _ a b _ ha hb (by simp) (by simp)).mono ?_
    rintro e w' ⟨rfl, rfl⟩
    go_wp2_with fail
    refine (rfinite_two _ _ a b _ ha hb (by simp) (by simp)).mono ?_
    rintro e w' ⟨rfl, rfl⟩
    generalize (Fl.fin a && Fl.fin b) = s2
    cases s2
    all_goals
      go_wp2_with fail
      refine (exp_any a _ ha).mono ?_
      rintro e w2 ⟨rfl, b2⟩
      go_wp2_with fail
      refine (rexp_any a _ ha).mono ?_
      rintro e w' ⟨rfl, rfl⟩
      have hee : (expOf a == expOf a) = true := by simp
      go_wp2_with fail
      refine (finite_nil _ _).mono ?_
      rintro e w' ⟨rfl, rfl⟩
      go_wp2_with fail
      refine (awake_any _).mono ?_
      rintro e w3 ⟨rfl, b3⟩
      go_wp2_with fail
      go_ret
      refine ⟨rfl, ?_⟩
      have s1 := b1.size
      have s2 := b2.size
      simp at s2
      exact (((b1.alloc b1.size _).alloc (by simp; omega) _).trans (b2.mono (by simp; omega))).trans (b3.mono (by omega))
end Go.Proofs.Ytgghpidfkcbbdaa
