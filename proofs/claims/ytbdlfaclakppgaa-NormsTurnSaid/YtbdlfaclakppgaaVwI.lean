/-
Set: a number of a matrix. Conditions: as each says.
-/
import Derived.Test.YtbdlfaclakppgaaVwH
set_option linter.unusedVariables false
namespace Go.Proofs.Ytbdlfaclakppgaa
open Go.RowKit
attribute [local go_sem ↓] Go.wp_at_zero Go.wp_at_succ

theorem Only.of_below {g : Nat} {w w' : World} (h : Below w.heap.size w w') : Only g w w' := ⟨h.os, h.tape, h.output, h.size, fun k hk _ => h.block k hk⟩
theorem within_any (i n : Int) (w : World) : Calls Try.prog 48 #[.int .i64 i, .int .i64 n] w fun e w' => e = .returned (.bool (decide (0 ≤ i) && decide (i < n))) ∧ w = w' := by
  go_enter Try.func48, Try.ntmps48
  go_wp2
  all_goals
    go_ret
    refine ⟨ret_bool ?_, rfl⟩
    rw [Bool.eq_iff_iff]
    simp_all <;> omega

/-- Is there a row i and a column j? -/
def thereB (n : Nat) (off r k ld i j : Int) : Bool := matB n off r k ld && (decide (0 ≤ i) && decide (i < r)) && (decide (0 ≤ j) && decide (j < k))

theorem place_any (A : Option Addr) (n c : Nat) (off r k ld : Int) (i j p : Int) (w : World) (hp : off + i + j * ld = p) (h1 : I64 (off + i)) (h2 : I64 (j * ld)) (h3 : I64 p) :
    Calls Try.prog 50 #[mat A n c off r k ld, .int .i64 i, .int .i64 j] w fun e w' => e = .returned (.int .i64 p) ∧ Below w.heap.size w w' := by
  unfold I64 at h1 h2 h3
  have w1 : IntKind.i64.wrap (off + i) = off + i := wrapi (by omega) (by omega)
  have w2 : IntKind.i64.wrap (j * ld) = j * ld := wrapi (by omega) (by omega)
  have w3 : IntKind.i64.wrap p = p := wrapi (by omega) (by omega)
  have v1 : wrap64 (off + i) = off + i := by unfold wrap64; omega
  have v3 : wrap64 p = p := by unfold wrap64; omega
  unfold mat
  go_enter Try.func50, Try.ntmps50
  go_wp2_with fail
  go_ret
  exact ⟨rfl, (Below.refl w.heap.size w).alloc (Nat.le_refl _) _⟩

theorem there_place {n : Nat} {off r k ld i j : Int} (h : thereB n off r k ld i j = true) : ∃ p : Nat, off + i + j * ld = (p : Int) ∧ p < n ∧ 0 ≤ off ∧ 0 ≤ i ∧ 0 ≤ j * ld := by
  unfold thereB matB at h
  simp only [Bool.and_eq_true, decide_eq_true_eq] at h
  obtain ⟨⟨⟨h1, h2, h3, h4, h5, h6⟩, h7, h8⟩, h9, h10⟩ := h
  have e : j * ld ≤ (k - 1) * ld := Int.mul_le_mul_of_nonneg_right (by omega) (by omega)
  have e0 : 0 ≤ j * ld := Int.mul_nonneg (by omega) (by omega)
  rcases h6 with h6 | h6 | h6
  · omega
  · omega
  · exact ⟨(off + i + j * ld).toNat, by omega, by omega, by omega, by omega, e0⟩

end Go.Proofs.Ytbdlfaclakppgaa
