/-
MoveVectors, the beginning: the two copies. Conditions: as each says.
-/
import Derived.Test.YtelpdbkkefpjhaaWFc
set_option linter.unusedVariables false
set_option linter.unusedSimpArgs false
set_option linter.unnecessarySimpa false
namespace Go.Proofs.Ytelpdbkkefpjhaa
open Go.RowKit
attribute [local go_sem ↓] Go.wp_at_zero Go.wp_at_succ

/-- Two results that have lists of their own. -/
def Twin (Z : Nat) (l l' : List Nat) (f f' : Nat → Nat → Value) (d1 d3 : Bool) (va vb : Value) (W : World) : Prop :=
  d1 = true → ∃ g c, va = f g c ∧ Own W g l ∧ Z ≤ g ∧ (d3 = true → ∃ g' c', vb = f' g' c' ∧ Own W g' l' ∧ Z ≤ g' ∧ g ≠ g')
section
variable {Z : Nat} {l l' : List Nat} {f f' : Nat → Nat → Value} {d1 d3 : Bool} {va vb : Value} {W W' : World}
theorem Twin.nxt (h : Twin Z l l' f f' d1 d3 va vb W) (hb : Below W.heap.size W W') : Twin Z l l' f f' d1 d3 va vb W' := fun e => by
  obtain ⟨g, c, h1, h2, h3, h4⟩ := h e
  refine ⟨g, c, h1, h2.nxt hb, h3, fun e' => ?_⟩
  obtain ⟨g', c', k1, k2, k3, k4⟩ := h4 e'
  exact ⟨g', c', k1, k2.nxt hb, k3, k4⟩
theorem own_ne {g p : Nat} {t : TypeId} {cs : Array Value} (h : Own W g l) (hB : Blk W p t cs) (ht : t ≠ 45) : g ≠ p := by
  rintro rfl
  obtain ⟨cs', hB', _⟩ := h
  unfold Blk at hB hB'
  rw [hB] at hB'
  injection hB' with hB'
  injection hB' with _ e _
  exact ht e
theorem own_far {g p : Nat} (h : Own W g l) (hb : ∀ k, k ≠ p → W'.heap[k]? = W.heap[k]?) (hne : g ≠ p) : Own W' g l := by
  obtain ⟨cs', hB', h2⟩ := h
  exact ⟨cs', (hb g hne).trans hB', h2⟩
theorem Twin.far {p : Nat} {t : TypeId} {cs : Array Value} (h : Twin Z l l' f f' d1 d3 va vb W) (hB : Blk W p t cs) (ht : t ≠ 45) (hb : ∀ k, k ≠ p → W'.heap[k]? = W.heap[k]?) : Twin Z l l' f f' d1 d3 va vb W' := fun e => by
  obtain ⟨g, c, h1, h2, h3, h4⟩ := h e
  refine ⟨g, c, h1, own_far h2 hb (own_ne h2 hB ht), h3, fun e' => ?_⟩
  obtain ⟨g', c', k1, k2, k3, k4⟩ := h4 e'
  exact ⟨g', c', k1, own_far k2 hb (own_ne k2 hB ht), k3, k4⟩
theorem Twin.first {g c : Nat} (ho : Own W g l) (hZ : Z ≤ g) (h3 : d3 = false) : Twin Z l l' f f' true d3 (f g c) vb W := fun _ => ⟨g, c, rfl, ho, hZ, fun e => by rw [h3] at e; cases e⟩
end
end Go.Proofs.Ytelpdbkkefpjhaa
