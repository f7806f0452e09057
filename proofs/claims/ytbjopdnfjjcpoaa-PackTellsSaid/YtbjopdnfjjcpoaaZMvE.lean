/-
Swap: numbers that change places. Conditions: the vectors' lists are the call's own, or the caller's.
-/
import Derived.Test.YtbjopdnfjjcpoaaVai
import Derived.BigRegion
set_option linter.unusedVariables false
namespace Go.Proofs.Ytbjopdnfjjcpoaa
open Go.RowKit
attribute [local go_sem ↓] Go.wp_at_zero Go.wp_at_succ
theorem heldQ8 {W w' : World} {b0 o0 b1 o1 b2 o2 b3 o3 b4 o4 b5 o5 b6 o6 b7 o7 : Nat} {v0 v1 v2 v3 v4 v5 v6 v7 : Value} {R : World → Prop} (h : W.cell? ⟨b0, o0, none⟩ = some v0 ∧ W.cell? ⟨b1, o1, none⟩ = some v1 ∧ W.cell? ⟨b2, o2, none⟩ = some v2 ∧ W.cell? ⟨b3, o3, none⟩ = some v3 ∧ W.cell? ⟨b4, o4, none⟩ = some v4 ∧ W.cell? ⟨b5, o5, none⟩ = some v5 ∧ W.cell? ⟨b6, o6, none⟩ = some v6 ∧ W.cell? ⟨b7, o7, none⟩ = some v7 ∧ R W) (hb : Below W.heap.size W w') (hR : R W → R w') :
    w'.cell? ⟨b0, o0, none⟩ = some v0 ∧ w'.cell? ⟨b1, o1, none⟩ = some v1 ∧ w'.cell? ⟨b2, o2, none⟩ = some v2 ∧ w'.cell? ⟨b3, o3, none⟩ = some v3 ∧ w'.cell? ⟨b4, o4, none⟩ = some v4 ∧ w'.cell? ⟨b5, o5, none⟩ = some v5 ∧ w'.cell? ⟨b6, o6, none⟩ = some v6 ∧ w'.cell? ⟨b7, o7, none⟩ = some v7 ∧ R w' :=
  ⟨cell_below h.1 hb, cell_below h.2.1 hb, cell_below h.2.2.1 hb, cell_below h.2.2.2.1 hb, cell_below h.2.2.2.2.1 hb, cell_below h.2.2.2.2.2.1 hb, cell_below h.2.2.2.2.2.2.1 hb, cell_below h.2.2.2.2.2.2.2.1 hb, hR h.2.2.2.2.2.2.2.2⟩
theorem heldS8 {W : World} {b0 o0 b1 o1 b2 o2 b3 o3 b4 o4 b5 o5 b6 o6 b7 o7 g j : Nat} {v0 v1 v2 v3 v4 v5 v6 v7 : Value} {R : World → Prop} (u : Value) (h : W.cell? ⟨b0, o0, none⟩ = some v0 ∧ W.cell? ⟨b1, o1, none⟩ = some v1 ∧ W.cell? ⟨b2, o2, none⟩ = some v2 ∧ W.cell? ⟨b3, o3, none⟩ = some v3 ∧ W.cell? ⟨b4, o4, none⟩ = some v4 ∧ W.cell? ⟨b5, o5, none⟩ = some v5 ∧ W.cell? ⟨b6, o6, none⟩ = some v6 ∧ W.cell? ⟨b7, o7, none⟩ = some v7 ∧ R W) (hR : R W → R (W.setCell ⟨g, j, none⟩ u)) (n0 : ¬ (b0 = g ∧ o0 = j)) (n1 : ¬ (b1 = g ∧ o1 = j)) (n2 : ¬ (b2 = g ∧ o2 = j)) (n3 : ¬ (b3 = g ∧ o3 = j)) (n4 : ¬ (b4 = g ∧ o4 = j)) (n5 : ¬ (b5 = g ∧ o5 = j)) (n6 : ¬ (b6 = g ∧ o6 = j)) (n7 : ¬ (b7 = g ∧ o7 = j)) :
    (W.setCell ⟨g, j, none⟩ u).cell? ⟨b0, o0, none⟩ = some v0 ∧ (W.setCell ⟨g, j, none⟩ u).cell? ⟨b1, o1, none⟩ = some v1 ∧ (W.setCell ⟨g, j, none⟩ u).cell? ⟨b2, o2, none⟩ = some v2 ∧ (W.setCell ⟨g, j, none⟩ u).cell? ⟨b3, o3, none⟩ = some v3 ∧ (W.setCell ⟨g, j, none⟩ u).cell? ⟨b4, o4, none⟩ = some v4 ∧ (W.setCell ⟨g, j, none⟩ u).cell? ⟨b5, o5, none⟩ = some v5 ∧ (W.setCell ⟨g, j, none⟩ u).cell? ⟨b6, o6, none⟩ = some v6 ∧ (W.setCell ⟨g, j, none⟩ u).cell? ⟨b7, o7, none⟩ = some v7 ∧ R (W.setCell ⟨g, j, none⟩ u) :=
  ⟨(cell_set2 n0 u).trans h.1, (cell_set2 n1 u).trans h.2.1, (cell_set2 n2 u).trans h.2.2.1, (cell_set2 n3 u).trans h.2.2.2.1, (cell_set2 n4 u).trans h.2.2.2.2.1, (cell_set2 n5 u).trans h.2.2.2.2.2.1, (cell_set2 n6 u).trans h.2.2.2.2.2.2.1, (cell_set2 n7 u).trans h.2.2.2.2.2.2.2.1, hR h.2.2.2.2.2.2.2.2⟩

end Go.Proofs.Ytbjopdnfjjcpoaa
