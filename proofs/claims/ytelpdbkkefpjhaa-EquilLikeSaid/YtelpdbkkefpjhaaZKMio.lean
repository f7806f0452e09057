/-
Into by the program, where it can be. Conditions: as each says.
-/
import Derived.Test.YtelpdbkkefpjhaaZKCl
set_option linter.unusedVariables false
set_option linter.unusedSimpArgs false
set_option linter.unnecessarySimpa false
namespace Go.Proofs.Ytelpdbkkefpjhaa
open Go.RowKit
attribute [local go_sem ↓] Go.wp_at_zero Go.wp_at_succ

/-- Before and behind the writing of a number. -/
def SetB (W0 : World) (g : Nat) (l2 : List Nat) (d : Bool) (W : World) : Prop := (d = false → Below W0.heap.size W0 W) ∧ (d = true → Own W g l2 ∧ Chg [g] W0 W)
theorem SetB.box {W0 W : World} {g : Nat} {l2 : List Nat} {d : Bool} {b : Nat} {t : TypeId} {cs : Array Value} (h : SetB W0 g l2 d W) (hB : Blk W0 b t cs) (hne : b ≠ g) : Blk W b t cs := by
  cases d
  · exact hB.nxt (h.1 rfl)
  · exact (h.2 rfl).2.blk (by simp; exact hne) hB
/-- The first q numbers, column by column, are the table's. -/
def Cim (l : List Nat) (o R C L : Nat) (T : Nat → Nat → Nat) (q : Nat) (l' : List Nat) : Prop :=
  l'.length = l.length ∧ (∀ a, a < R → ∀ b, b < C → l'.getD (o + a + b * L) 0 = if b * R + a < q then T a b else l.getD (o + a + b * L) 0) ∧ ∀ x, (∀ a, a < R → ∀ b, b < C → x ≠ o + a + b * L) → l'.getD x 0 = l.getD x 0
theorem Cim.zero (l : List Nat) (o R C L : Nat) (T : Nat → Nat → Nat) : Cim l o R C L T 0 l := ⟨rfl, fun a _ b _ => by rw [if_neg (by omega)], fun _ _ => rfl⟩
theorem Cim.done {l l' : List Nat} {o R C L q : Nat} {T : Nat → Nat → Nat} (h : Cim l o R C L T q l') (hq : R * C = q) : Img l o R C L T l' :=
  ⟨h.1, fun a ha b hb => by
    rw [h.2.1 a ha b hb, if_pos]
    have : (b + 1) * R ≤ C * R := Nat.mul_le_mul_right _ (by omega)
    rw [Nat.add_mul, Nat.mul_comm C R, hq] at this; omega, h.2.2⟩
theorem Cim.step {l l' : List Nat} {o R C L q a b : Nat} {T : Nat → Nat → Nat} (h : Cim l o R C L T q l') (hR : R ≤ L) (ha : a < R) (hb : b < C) (hq : b * R + a = q) (hP : o + a + b * L < l.length) : Cim l o R C L T (q + 1) (l'.set (o + a + b * L) (T a b)) := by
  refine ⟨by rw [List.length_set]; exact h.1, fun i hi j hj => ?_, fun x hx => ?_⟩
  · by_cases e : i = a ∧ j = b
    · obtain ⟨rfl, rfl⟩ := e
      rw [getD_set_self (by rw [h.1]; exact hP), if_pos (by omega)]
    · rw [getD_set_ne _ (fun e2 => e (by
        have := spots_inj (L := L) (a := a) (b := b) (a' := i) (b' := j) (by omega) (by omega) (by omega)
        exact ⟨this.1.symm, this.2.symm⟩)), h.2.1 i hi j hj]
      have hne : j * R + i ≠ q := by
        intro e2
        have := spots_inj (L := R) (a := i) (b := j) (a' := a) (b' := b) hi ha (by omega)
        exact e this
      by_cases e1 : j * R + i < q
      · rw [if_pos e1, if_pos (by omega)]
      · rw [if_neg e1, if_neg (by omega)]
  · rw [getD_set_ne _ (fun e => hx a ha b hb e.symm), h.2.2 x hx]

end Go.Proofs.Ytelpdbkkefpjhaa
