/-
ViewMeets. Conditions: the first cell of the list isn't shared with a string.
-/
import Derived.Test.YtbjopdnfjjcpoaaZVwM
set_option linter.unusedVariables false
namespace Go.Proofs.Ytbjopdnfjjcpoaa
open Go.RowKit
attribute [local go_sem ↓] Go.wp_at_zero Go.wp_at_succ

theorem run_sameAddr_far {P : Program} {w : World} {b o g : Nat} {t : TypeId} {cs : Array Value} {v : Value} (hne : b ≠ g) (hc : w.cell? ⟨b, o, none⟩ = some v) (hf : w.frozen? ⟨b, o, none⟩ = false) (hB : Blk w g t cs) (hs : 0 < cs.size) :
    (sameAddr ⟨b, o, none⟩ ⟨g, 0, none⟩).run P w = .ok false w := by
  obtain ⟨ca, ta, fr, ha, m, hm⟩ : ∃ ca ta fr, w.heap[b]? = some (.cells ca ta fr) ∧ ∃ m, ca.size = m + 1 := by
    unfold World.cell? at hc
    simp only at hc
    split at hc
    · rename_i ca ta fr h
      refine ⟨ca, ta, fr, h, ca.size - 1, ?_⟩
      have h1 := (Array.getElem?_eq_some_iff.1 hc).1
      omega
    · cases hc
  have hg := hB
  unfold Blk at hg
  have hs0 : cs.size ≠ 0 := by omega
  obtain ⟨lo, hi⟩ := fr
  have hf' : (decide (lo ≤ o) && decide (o < hi)) = false := by
    simpa [World.frozen?, ha] using hf
  have hg2 : g ≠ b := fun e => hne e.symm
  cases h1 : decide (lo ≤ m + 1) && decide (m + 1 < hi)
  all_goals simp [sameAddr, hne, World.frozen?, ha, hg, hf', noView, viewAt, World.shape?, mayBeOne, stringish, hs0, h1, hm]
theorem both_pos {n n' : Nat} {off r k ld off' r' k' ld' : Int} (h : bothB n off r k ld n' off' r' k' ld' = true) : 0 < n := by
  unfold bothB at h
  simp only [Bool.and_eq_true, Bool.not_eq_true', Bool.or_eq_false_iff, beq_eq_false_iff_ne, ne_eq] at h
  have g1 := of_decide_eq_true h.1.1.1
  have h0 : 0 ≤ (k - 1) * ld := Int.mul_nonneg (by omega) (by omega)
  omega

/-- What the law expects. -/
def wantB (n : Nat) (off r k ld off' r' k' ld' : Int) : Bool := bothB n off r k ld n off' r' k' ld' && (decide (off ≤ lastI off' r' k' ld') && decide (off' ≤ lastI off r k ld))
theorem both_comm (n : Nat) (off r k ld : Int) (off' r' k' ld' : Int) : bothB n off r k ld n off' r' k' ld' = bothB n off' r' k' ld' n off r k ld := by
  unfold bothB
  cases matB n off r k ld <;> cases matB n off' r' k' ld' <;> cases (r == 0 || k == 0) <;> cases (r' == 0 || k' == 0) <;> rfl
theorem want_comm (n : Nat) (off r k ld off' r' k' ld' : Int) : wantB n off r k ld off' r' k' ld' = wantB n off' r' k' ld' off r k ld := by
  unfold wantB
  rw [both_comm, Bool.and_comm (decide (off ≤ _))]

theorem both_why {n : Nat} {off r k ld off' r' k' ld' : Int} (h : bothB n off r k ld n off' r' k' ld' = false) :
    matB n off r k ld = false ∨ matB n off r k ld = true ∧ (matB n off' r' k' ld' = false ∨ matB n off' r' k' ld' = true ∧ (r ≤ 0 ∨ 0 < r ∧ (k ≤ 0 ∨ 0 < k ∧ (r' ≤ 0 ∨ 0 < r' ∧ k' ≤ 0)))) := by
  unfold bothB at h
  cases h1 : matB n off r k ld
  · exact .inl rfl
  cases h2 : matB n off' r' k' ld'
  · exact .inr ⟨rfl, .inl rfl⟩
  refine .inr ⟨rfl, .inr ⟨rfl, ?_⟩⟩
  have g1 := of_decide_eq_true h1
  have g2 := of_decide_eq_true h2
  rw [h1, h2] at h
  simp at h
  omega

end Go.Proofs.Ytbjopdnfjjcpoaa
