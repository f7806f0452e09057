/-
MoveBack. Conditions: as each says.
-/
import Derived.Test.YtbjopdnfjjcpoaaMvJ
set_option linter.unusedVariables false
namespace Go.Proofs.Ytbjopdnfjjcpoaa
open Go.RowKit
attribute [local go_sem ↓] Go.wp_at_zero Go.wp_at_succ

theorem heldG6 {W w' : World} {G : List Nat} {b0 o0 b1 o1 b2 o2 b3 o3 b4 o4 b5 o5 : Nat} {v0 v1 v2 v3 v4 v5 : Value} {R : World → Prop} (h : W.cell? ⟨b0, o0, none⟩ = some v0 ∧ W.cell? ⟨b1, o1, none⟩ = some v1 ∧ W.cell? ⟨b2, o2, none⟩ = some v2 ∧ W.cell? ⟨b3, o3, none⟩ = some v3 ∧ W.cell? ⟨b4, o4, none⟩ = some v4 ∧ W.cell? ⟨b5, o5, none⟩ = some v5 ∧ R W) (hc : Chg G W w') (n0 : b0 ∉ G) (n1 : b1 ∉ G) (n2 : b2 ∉ G) (n3 : b3 ∉ G) (n4 : b4 ∉ G) (n5 : b5 ∉ G) (hR : R W → R w') :
    w'.cell? ⟨b0, o0, none⟩ = some v0 ∧ w'.cell? ⟨b1, o1, none⟩ = some v1 ∧ w'.cell? ⟨b2, o2, none⟩ = some v2 ∧ w'.cell? ⟨b3, o3, none⟩ = some v3 ∧ w'.cell? ⟨b4, o4, none⟩ = some v4 ∧ w'.cell? ⟨b5, o5, none⟩ = some v5 ∧ R w' :=
  ⟨hc.cell n0 h.1, hc.cell n1 h.2.1, hc.cell n2 h.2.2.1, hc.cell n3 h.2.2.2.1, hc.cell n4 h.2.2.2.2.1, hc.cell n5 h.2.2.2.2.2.1, hR h.2.2.2.2.2.2⟩
theorem row_lt {w : World} {B : Option Addr} {xs : List Value} (h : Row w B xs) (hne : xs ≠ []) : ∀ b x, B = some ⟨b, x, none⟩ → b < w.heap.size := by
  intro b x e
  rcases h with h | ⟨b', o', e', hc⟩
  · exact (hne h).elim
  · rw [e] at e'
    injection e' with e'
    injection e' with e1 e2 e3
    subst e1
    cases xs with
    | nil => exact (hne rfl).elim
    | cons v xs => exact block_lt (hc 0 v rfl)
theorem i64s_ne {zs : List Int} (h : zs ≠ []) : i64s zs ≠ [] := by
  cases zs with
  | nil => exact (h rfl).elim
  | cons a b => simp [i64s]

end Go.Proofs.Ytbjopdnfjjcpoaa
