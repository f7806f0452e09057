/-
Take: rows that change places in an order. Conditions: as each says.
-/
import Derived.Test.YtbjopdnfjjcpoaaMvI
import Derived.Test.YtbjopdnfjjcpoaaOpI
set_option linter.unusedVariables false
namespace Go.Proofs.Ytbjopdnfjjcpoaa
open Go.RowKit
attribute [local go_sem ↓] Go.wp_at_zero Go.wp_at_succ

/-- Is each from its own place to r - 1? -/
def OrdOk (r : Int) (zs : List Int) (k : Nat) : Prop := ∀ i (h : i < zs.length), i < k → (i : Int) ≤ zs[i] ∧ zs[i] < r
/-- The answer of takes. -/
def TakesI (n : Nat) (off r k ld : Int) (zs : List Int) (e : Int) : Prop :=
  (matB n off r k ld = false ∧ e = 1) ∨ (matB n off r k ld = true ∧ r < zs.length ∧ e = 3) ∨ (matB n off r k ld = true ∧ (zs.length : Int) ≤ r ∧ ((e = 0 ∧ OrdOk r zs zs.length) ∨ (e = 1 ∧ ¬ OrdOk r zs zs.length)))

/-- The row that stands at a when the first k changes of the order have been made. -/
def prm (zs : List Int) : Nat → Nat → Nat
  | 0, a => a
  | k + 1, a => prm zs k (sw k (zs.getD k 0).toNat a)
theorem prm_lt {zs : List Int} {R : Nat} : ∀ {k : Nat}, OrdOk R zs k → k ≤ zs.length → ∀ {a : Nat}, a < R → prm zs k a < R
  | 0, _, _, a, ha => ha
  | k + 1, h, hk, a, ha => by
    have h1 := h k (by omega) (by omega)
    have e : zs.getD k 0 = zs[k] := by simp [List.getD, show k < zs.length by omega]
    refine prm_lt (k := k) (fun i hi hik => h i hi (by omega)) (by omega) (sw_lt (by omega) (by rw [e]; omega) ha)

theorem Img.step {l m m' : List Nat} {o R C L i j : Nat} {zs : List Int} {q : Nat} (h : Img l o R C L (fun a b => l.getD (o + prm zs q a + b * L) 0) m) (h' : Img m o R C L (fun a b => m.getD (o + sw i j a + b * L) 0) m') (hi : i < R) (hj : j < R) :
    Img l o R C L (fun a b => l.getD (o + prm zs q (sw i j a) + b * L) 0) m' :=
  (h.trans h').congr fun a ha b hb => h.2.1 _ (sw_lt hi hj ha) b hb

end Go.Proofs.Ytbjopdnfjjcpoaa
