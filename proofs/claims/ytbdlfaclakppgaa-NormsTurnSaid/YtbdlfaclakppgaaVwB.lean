/-
Lists of floats: the document's Same and All, where all are the same. Conditions: the words are below 2^64.
-/
import Derived.Test.YtbdlfaclakppgaaVwO
import Derived.Deep.RegionHeld3
import Derived.Deep.DrawnRows
import Derived.Deep.DeepCutAuto
import Derived.Deep.CutBlock
import Derived.Deep.OwnRows
import Derived.IntWalk
set_option linter.unusedVariables false
namespace Go.Proofs.Ytbdlfaclakppgaa
open Go.RowKit
attribute [local go_sem ↓] Go.wp_at_zero Go.wp_at_succ

@[go_sem] theorem run_store_float (P : Program) (w : World) (a : Addr) (m : Mode) (k : FloatKind) (b : Nat) : (store a (.float k b) m).run P w = stored P w a (.float k b) m := run_store P w a _ m rfl

theorem kind_two (x : Nat) : (kindOf x == 2) = Fl.nan x := by
  unfold kindOf Fl.nan
  rw [Bool.eq_iff_iff, beq_iff_eq, decide_eq_true_eq]
  split
  · omega
  · split <;> omega

theorem rsame_v (a b : Nat) (w : World) (ha : a < 18446744073709551616) (hb : b < 18446744073709551616) :
    Calls Try.prog 13 #[.float .f64 a, .float .f64 b] w fun e w' => e = .returned (.bool (sameB a b)) ∧ w = w' := by
  have ka := kind_two a
  have kb := kind_two b
  have hc : (((a : Int) == (b : Int)) = true ∧ sameB a b = true) ∨ (((a : Int) == (b : Int)) = false ∧ ((Fl.nan a = true ∧ sameB a b = Fl.nan b) ∨ (Fl.nan a = false ∧ sameB a b = false))) := by
    by_cases h : a = b
    · exact .inl ⟨by simp [h], by simp [sameB, h]⟩
    · refine .inr ⟨by simp; omega, ?_⟩
      cases hn : Fl.nan a
      · exact .inr ⟨rfl, by simp [sameB, h, hn]⟩
      · exact .inl ⟨rfl, by simp [sameB, h, hn]⟩
  rcases hc with ⟨h1, h2⟩ | ⟨h1, ⟨h3, h2⟩ | ⟨h3, h2⟩⟩
  all_goals
    rw [h2]
    try rw [h3] at ka
    clear h2
    try clear h3
    go_enter Try.func13, Try.ntmps13
    go_wp2_with fail
    refine (parts_any a _ ha).mono ?_
    rintro e w' ⟨rfl, rfl⟩
    go_wp2_with fail
    refine (parts_any b _ hb).mono ?_
    rintro e w' ⟨rfl, rfl⟩
    go_wp2
    go_ret
    exact ⟨rfl, rfl⟩
theorem sameB_refl (a : Nat) : sameB a a = true := by simp [sameB]

/-- Two lists of the same numbers. -/
def Alike (x y : List Nat) : Prop := x.length = y.length ∧ ∀ (i : Nat) (h : i < x.length) (h' : i < y.length), sameB x[i] y[i] = true
theorem Alike.refl (x : List Nat) : Alike x x := ⟨rfl, fun i _ _ => sameB_refl _⟩

end Go.Proofs.Ytbdlfaclakppgaa
