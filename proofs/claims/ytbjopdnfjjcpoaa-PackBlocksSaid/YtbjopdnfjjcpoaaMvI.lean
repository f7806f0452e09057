/-
The example; Great; Take. Conditions: as each says.
-/
import Derived.Test.YtbjopdnfjjcpoaaMvH
set_option linter.unusedVariables false
namespace Go.Proofs.Ytbjopdnfjjcpoaa
open Go.RowKit
attribute [local go_sem ↓] Go.wp_at_zero Go.wp_at_succ

theorem img_ex {l' : List Nat} {a b c d : Nat} (h : Img [a, b, c, d] 0 2 2 2 (fun x y => ([a, b, c, d] : List Nat).getD (0 + sw 0 1 x + y * 2) 0) l') : l' = [b, a, d, c] := by
  obtain ⟨h1, h2, h3⟩ := h
  refine ext_getD (by simpa using h1) fun i hi => ?_
  have hi4 : i < 4 := by simp at h1; omega
  have q0 := h2 0 (by omega) 0 (by omega)
  have q1 := h2 1 (by omega) 0 (by omega)
  have q2 := h2 0 (by omega) 1 (by omega)
  have q3 := h2 1 (by omega) 1 (by omega)
  simp [sw] at q0 q1 q2 q3
  match i, hi4 with
  | 0, _ => simpa using q0
  | 1, _ => simpa using q1
  | 2, _ => simpa using q2
  | 3, _ => simpa using q3
theorem four_wds4 : Wds [4613937818241073152, 4607182418800017408, 4616189618054758400, 4611686018427387904] := by
  intro b hb
  simp at hb
  omega

/-- Is there more of a matrix than is looked at? -/
def greatB (n : Nat) (r k : Int) : Bool := decide (1000 < n) || decide (20 < r) || decide (20 < k)
theorem great_any (A : Option Addr) (n c : Nat) (off r k ld : Int) (w : World) : Calls Try.prog 7 #[mat A n c off r k ld] w fun e w' => e = .returned (.bool (greatB n r k)) ∧ Below w.heap.size w w' := by
  have hbel := fun (o : Obj) => (Below.refl w.heap.size w).alloc (Nat.le_refl _) o
  have e0 : decide ((1000 : Int) < (n : Int)) = decide (1000 < n) := decide_eq_decide.2 (by omega)
  unfold mat greatB
  by_cases h1 : (1000 : Int) < (n : Int)
  · have h2 : decide (1000 < n) = true := by simp; omega
    rw [h2]
    go_enter Try.func7, Try.ntmps7
    go_wp2_with fail
    go_ret
    exact ⟨by simp, hbel _⟩
  · have h2 : decide (1000 < n) = false := by simp; omega
    rw [h2]
    by_cases h3 : 20 < r
    · go_enter Try.func7, Try.ntmps7
      go_wp2_with fail
      go_ret
      exact ⟨by simp <;> omega, hbel _⟩
    · go_enter Try.func7, Try.ntmps7
      go_wp2_with fail
      go_ret
      exact ⟨by simp <;> omega, hbel _⟩
end Go.Proofs.Ytbjopdnfjjcpoaa
