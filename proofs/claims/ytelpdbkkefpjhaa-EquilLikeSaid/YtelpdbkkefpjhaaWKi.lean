/-
The document's Take of a table. Conditions: the table has at most 2^20 numbers.
-/
import Derived.Test.YtelpdbkkefpjhaaWKh
import Derived.Test.YtelpdbkkefpjhaaWKg
set_option linter.unusedVariables false
namespace Go.Proofs.Ytelpdbkkefpjhaa
open Go.RowKit
attribute [local go_sem ↓] Go.wp_at_zero Go.wp_at_succ

/-- The table's rows stand as the first q changes of the order have it. -/
def Prm (T : List Nat) (zs : List Int) (R C q : Nat) (T' : List Nat) : Prop := T'.length = T.length ∧ ∀ a, a < R → ∀ b, b < C → T'.getD (a * C + b) 0 = T.getD (prm zs q a * C + b) 0
theorem Prm.step {T T' T2 : List Nat} {zs : List Int} {R C q j : Nat} (h : Prm T zs R C q T') (h2 : Half T' q j R C C T2) (hq : q < R) (hj : j < R) (e : ∀ a, prm zs (q + 1) a = prm zs q (sw q j a)) : Prm T zs R C (q + 1) T2 :=
  ⟨h2.1.trans h.1, fun a ha b hb => by
    rw [h2.2 a ha b hb, if_pos hb, h.2 _ (sw_lt hq hj ha) b hb, e]⟩

end Go.Proofs.Ytelpdbkkefpjhaa
/-
The document's Into: a list with a table at a matrix' places. Conditions: the matrix is right, its list and the table have at most 2^20 numbers.
-/
set_option linter.unusedVariables false
set_option linter.unusedSimpArgs false
namespace Go.Proofs.Ytelpdbkkefpjhaa
open Go.RowKit
attribute [local go_sem ↓] Go.wp_at_zero Go.wp_at_succ

/-- The list has the table T at the matrix' first places, by rows, and is else as it was. -/
def Pim (l : List Nat) (o R C L : Nat) (T : Nat → Nat → Nat) (a b : Nat) (l' : List Nat) : Prop :=
  l'.length = l.length ∧ (∀ i, i < R → ∀ j, j < C → l'.getD (o + i + j * L) 0 = if i < a ∨ (i = a ∧ j < b) then T i j else l.getD (o + i + j * L) 0) ∧ ∀ x, (∀ i, i < R → ∀ j, j < C → x ≠ o + i + j * L) → l'.getD x 0 = l.getD x 0
theorem Pim.zero (l : List Nat) (o R C L : Nat) (T : Nat → Nat → Nat) : Pim l o R C L T 0 0 l := ⟨rfl, fun i _ j _ => by rw [if_neg (by omega)], fun _ _ => rfl⟩
theorem Pim.next {l l' : List Nat} {o R C L : Nat} {T : Nat → Nat → Nat} {a : Nat} (h : Pim l o R C L T a C l') : Pim l o R C L T (a + 1) 0 l' :=
  ⟨h.1, fun i hi j hj => by
    rw [h.2.1 i hi j hj]
    by_cases e : i < a ∨ (i = a ∧ j < C)
    · rw [if_pos e, if_pos (by omega)]
    · rw [if_neg e, if_neg (by omega)], h.2.2⟩
theorem Pim.done {l l' : List Nat} {o R C L : Nat} {T : Nat → Nat → Nat} (h : Pim l o R C L T R 0 l') : Img l o R C L T l' :=
  ⟨h.1, fun i hi j hj => by rw [h.2.1 i hi j hj, if_pos (.inl hi)], h.2.2⟩
theorem Pim.step {l l' : List Nat} {o R C L : Nat} {T : Nat → Nat → Nat} {a b : Nat} (h : Pim l o R C L T a b l') (hR : R ≤ L) (ha : a < R) (hb : b < C) (hP : o + a + b * L < l.length) : Pim l o R C L T a (b + 1) (l'.set (o + a + b * L) (T a b)) := by
  refine ⟨by rw [List.length_set]; exact h.1, fun i hi j hj => ?_, fun x hx => ?_⟩
  · by_cases e : i = a ∧ j = b
    · obtain ⟨rfl, rfl⟩ := e
      rw [getD_set_self (by rw [h.1]; exact hP), if_pos (by omega)]
    · rw [getD_set_ne _ (fun e2 => e (by
        have := spots_inj (L := L) (a := a) (b := b) (a' := i) (b' := j) (by omega) (by omega) (by omega)
        exact ⟨this.1.symm, this.2.symm⟩)), h.2.1 i hi j hj]
      by_cases e1 : i < a ∨ (i = a ∧ j < b)
      · rw [if_pos e1, if_pos (by omega)]
      · rw [if_neg e1, if_neg (by omega)]
  · rw [getD_set_ne _ (fun e => hx a ha b hb e.symm), h.2.2 x hx]
end Go.Proofs.Ytelpdbkkefpjhaa
