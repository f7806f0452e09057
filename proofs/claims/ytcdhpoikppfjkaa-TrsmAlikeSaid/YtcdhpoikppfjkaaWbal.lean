/-
Gemv: the pure numbers of a product (of GvL, what GemvClose wants). Conditions: as each says.
-/
import Derived.Test.YtcdhpoikppfjkaaWbak
import Derived.Test.YtcdhpoikppfjkaaWbah
import Derived.Test.YtcdhpoikppfjkaaZAVwC
import Derived.Shelf.Abstract
set_option linter.unusedVariables false
set_option linter.unusedSimpArgs false
set_option linter.unnecessarySimpa false
namespace Go.Proofs.Ytcdhpoikppfjkaa
open Go.RowKit
attribute [local go_sem ↓] Go.wp_at_zero Go.wp_at_succ

/-- Numbers added one behind the other. -/
def chnF (z : Nat) (f : Nat → Nat) : Nat → Nat
  | 0 => z
  | k + 1 => fbin .add (chnF z f k) (f k)
theorem chnF_congr (z : Nat) {f f' : Nat → Nat} : ∀ k, (∀ j, j < k → f j = f' j) → chnF z f k = chnF z f' k
  | 0, _ => rfl
  | k + 1, h => by
    show fbin .add _ _ = fbin .add _ _
    rw [chnF_congr z k (fun j hj => h j (by omega)), h k (by omega)]
theorem Chn.is_ {S : Nat → Nat → Nat → Prop} {y z : Nat} {f : Nat → Nat} (hy : Is y z) : ∀ {k r : Nat}, (∀ j, j < k → ∀ s r, S j s r → ∃ p, Is p (f j) ∧ Comes .add s p r) → Chn S y k r → Is r (chnF z f k)
  | 0, r, _, h => by
    obtain rfl : r = y := h
    exact hy
  | k + 1, r, hS, h => by
    obtain ⟨s, h1, h2⟩ := h
    obtain ⟨p, h3, h4⟩ := hS k (by omega) s r h2
    exact h4.is_ (Chn.is_ hy (fun j hj => hS j (by omega)) h1) h3
theorem MulR.is_ {a n f r : Nat} (ha : a < 18446744073709551616) (hn : n < 18446744073709551616) (hf : f < 18446744073709551616) (h : MulR a n f r) : Is r (fbin .mul (fbin .mul a f) n) := by
  obtain ⟨p, h1, h2⟩ := h
  exact h2.is_ (h1.is_ (Is.refl ha) (Is.refl hf)) (Is.refl hn)
theorem MulQ.is_ {a b : Nat} {l : List Nat} {o i : Nat} {lm : List Nat} {om C L : Nat} {lx : List Nat} {ox ix q r : Nat} (ha : a < 18446744073709551616) (hb : b < 18446744073709551616) (hW : Wds l) (hWm : Wds lm) (hWx : Wds lx) (h : MulQ a b l o i lm om C L lx ox ix q r) :
    Is r (chnF (begF b (l.getD (o + q * i) 0)) (fun k => fbin .mul (fbin .mul a (lx.getD (ox + k * ix) 0)) (lm.getD (om + k * L + q) 0)) C) := by
  obtain ⟨s, h1, h2⟩ := h
  exact Chn.is_ (h1.is_ hb (Is.refl (getD_wds hW _))) (fun j _ s r hS => by
    obtain ⟨p, k1, k2⟩ := hS
    exact ⟨p, MulR.is_ ha (getD_wds hWm _) (getD_wds hWx _) k1, k2⟩) h2
/-! ### The document's example. -/
end Go.Proofs.Ytcdhpoikppfjkaa
/-
Ger: each number of a matrix goes through what is handed in. Conditions: the matrix is right, its list the call's own, or it has no numbers.
-/
set_option linter.unusedVariables false
set_option linter.unusedSimpArgs false
set_option linter.unnecessarySimpa false
namespace Go.Proofs.Ytcdhpoikppfjkaa
open Go.RowKit
attribute [local go_sem ↓] Go.wp_at_zero Go.wp_at_succ

/-- The numbers of the first columns, and the next column's first, have become what was asked. -/
def Pcl (l : List Nat) (o R C L : Nat) (P : Nat → Nat → Nat → Prop) (j i : Nat) (l' : List Nat) : Prop :=
  l'.length = l.length ∧ (∀ a, a < R → ∀ b, b < C → if b < j ∨ (b = j ∧ a < i) then P a b (l'.getD (o + a + b * L) 0) else l'.getD (o + a + b * L) 0 = l.getD (o + a + b * L) 0) ∧ ∀ x, (∀ a, a < R → ∀ b, b < C → x ≠ o + a + b * L) → l'.getD x 0 = l.getD x 0
/-- All of them have. -/
def Imr (l : List Nat) (o R C L : Nat) (P : Nat → Nat → Nat → Prop) (l' : List Nat) : Prop :=
  l'.length = l.length ∧ (∀ a, a < R → ∀ b, b < C → P a b (l'.getD (o + a + b * L) 0)) ∧ ∀ x, (∀ a, a < R → ∀ b, b < C → x ≠ o + a + b * L) → l'.getD x 0 = l.getD x 0
theorem Pcl.zero (l : List Nat) (o R C L : Nat) (P : Nat → Nat → Nat → Prop) : Pcl l o R C L P 0 0 l := ⟨rfl, fun a _ b _ => by rw [if_neg (by omega)], fun _ _ => rfl⟩
theorem Pcl.next {l l' : List Nat} {o R C L : Nat} {P : Nat → Nat → Nat → Prop} {j : Nat} (h : Pcl l o R C L P j R l') : Pcl l o R C L P (j + 1) 0 l' :=
  ⟨h.1, fun a ha b hb => by
    have := h.2.1 a ha b hb
    by_cases e : b < j ∨ (b = j ∧ a < R)
    · rw [if_pos e] at this; rw [if_pos (by omega)]; exact this
    · rw [if_neg e] at this; rw [if_neg (by omega)]; exact this, h.2.2⟩
theorem Pcl.done {l l' : List Nat} {o R C L : Nat} {P : Nat → Nat → Nat → Prop} (h : Pcl l o R C L P C 0 l') : Imr l o R C L P l' :=
  ⟨h.1, fun a ha b hb => by have := h.2.1 a ha b hb; rw [if_pos (.inl hb)] at this; exact this, h.2.2⟩
theorem Pcl.was {l l' : List Nat} {o R C L : Nat} {P : Nat → Nat → Nat → Prop} {i j : Nat} (h : Pcl l o R C L P j i l') (hi : i < R) (hj : j < C) : l'.getD (o + i + j * L) 0 = l.getD (o + i + j * L) 0 := by
  have := h.2.1 i hi j hj
  rwa [if_neg (by omega)] at this
theorem Pcl.step {l l' : List Nat} {o R C L : Nat} {P : Nat → Nat → Nat → Prop} {i j r : Nat} (h : Pcl l o R C L P j i l') (hR : R ≤ L) (hi : i < R) (hj : j < C) (hP : o + i + j * L < l.length) (hr : P i j r) : Pcl l o R C L P j (i + 1) (l'.set (o + i + j * L) r) := by
  refine ⟨by rw [List.length_set]; exact h.1, fun a ha b hb => ?_, fun x hx => ?_⟩
  · by_cases e : a = i ∧ b = j
    · obtain ⟨rfl, rfl⟩ := e
      rw [getD_set_self (by rw [h.1]; exact hP), if_pos (by omega)]
      exact hr
    · rw [getD_set_ne _ (fun e2 => e (by
        have := spots_inj (L := L) (a := i) (b := j) (a' := a) (b' := b) (by omega) (by omega) (by omega)
        exact ⟨this.1.symm, this.2.symm⟩))]
      have := h.2.1 a ha b hb
      by_cases e1 : b < j ∨ (b = j ∧ a < i)
      · rw [if_pos e1] at this; rw [if_pos (by omega)]; exact this
      · rw [if_neg e1] at this; rw [if_neg (by omega)]; exact this
  · rw [getD_set_ne _ (fun e => hx i hi j hj e.symm), h.2.2 x hx]
end Go.Proofs.Ytcdhpoikppfjkaa
