/-
Gemv: the pure numbers of a product (of GvL, what GemvClose wants). Conditions: as each says.
-/
import Derived.Test.YtbeefnekblepfaaUaap
import Derived.Test.YtbeefnekblepfaaUaaj
import Derived.Test.YtbeefnekblepfaaZVwC
set_option linter.unusedVariables false
set_option linter.unusedSimpArgs false
set_option linter.unnecessarySimpa false
namespace Go.Proofs.Ytbeefnekblepfaa
open Go.RowKit
attribute [local go_sem ↓] Go.wp_at_zero Go.wp_at_succ

/-- Numbers added one behind the other. -/
def chnF (z : Nat) (f : Nat → Nat) : Nat → Nat
  | 0 => z
  | k + 1 => fbin .add (chnF z f k) (f k)
theorem chnF_congr (z : Nat) {f f' : Nat → Nat} : ∀ k, (∀ j, j < k → f j = f' j) → chnF z f k = chnF z f' k
  | 0, _ => rfl
  | k + 1, h => by
    show fbin .add _ _ = fbin .add _ _
    rw [chnF_congr z k (fun j hj => h j (by omega)), h k (by omega)]
theorem Chn.is_ {S : Nat → Nat → Nat → Prop} {y z : Nat} {f : Nat → Nat} (hy : Is y z) : ∀ {k r : Nat}, (∀ j, j < k → ∀ s r, S j s r → ∃ p, Is p (f j) ∧ Comes .add s p r) → Chn S y k r → Is r (chnF z f k)
  | 0, r, _, h => by
    obtain rfl : r = y := h
    exact hy
  | k + 1, r, hS, h => by
    obtain ⟨s, h1, h2⟩ := h
    obtain ⟨p, h3, h4⟩ := hS k (by omega) s r h2
    exact h4.is_ (Chn.is_ hy (fun j hj => hS j (by omega)) h1) h3
theorem MulR.is_ {a n f r : Nat} (ha : a < 18446744073709551616) (hn : n < 18446744073709551616) (hf : f < 18446744073709551616) (h : MulR a n f r) : Is r (fbin .mul (fbin .mul a f) n) := by
  obtain ⟨p, h1, h2⟩ := h
  exact h2.is_ (h1.is_ (Is.refl ha) (Is.refl hf)) (Is.refl hn)
theorem MulQ.is_ {a b : Nat} {l : List Nat} {o i : Nat} {lm : List Nat} {om C L : Nat} {lx : List Nat} {ox ix q r : Nat} (ha : a < 18446744073709551616) (hb : b < 18446744073709551616) (hW : Wds l) (hWm : Wds lm) (hWx : Wds lx) (h : MulQ a b l o i lm om C L lx ox ix q r) :
    Is r (chnF (begF b (l.getD (o + q * i) 0)) (fun k => fbin .mul (fbin .mul a (lx.getD (ox + k * ix) 0)) (lm.getD (om + k * L + q) 0)) C) := by
  obtain ⟨s, h1, h2⟩ := h
  exact Chn.is_ (h1.is_ hb (Is.refl (getD_wds hW _))) (fun j _ s r hS => by
    obtain ⟨p, k1, k2⟩ := hS
    exact ⟨p, MulR.is_ ha (getD_wds hWm _) (getD_wds hWx _) k1, k2⟩) h2
/-! ### The document's example. -/
def ex99 : List Nat := [4621256167635550208, 4621256167635550208]
def ex56v : List Nat := [4617315517961601024, 4618441417868443648]
def ex1234 : List Nat := [4607182418800017408, 4611686018427387904, 4613937818241073152, 4616189618054758400]
def exD : List Nat := [4607182418800017408, 4613937818241073152, 4611686018427387904, 4616189618054758400]
def ex1739 : List Nat := [4625478292286210048, 4630685579355357184]
theorem ex1739_wds : Wds ex1739 := by intro b hb; simp [ex1739] at hb; omega
theorem exD_wds : Wds exD := by intro b hb; simp [exD] at hb; omega
theorem ex99_wds : Wds ex99 := by intro b hb; simp [ex99] at hb; omega
theorem ex56v_wds : Wds ex56v := by intro b hb; simp [ex56v] at hb; omega
theorem ex_f0 : chnF (begF 0 4621256167635550208) (fun k => fbin .mul (fbin .mul 4607182418800017408 (ex56v.getD (0 + k * 1) 0)) (exD.getD (0 + k * 2 + 0) 0)) 2 = 4625478292286210048 := by decide +kernel
theorem ex_f1 : chnF (begF 0 4621256167635550208) (fun k => fbin .mul (fbin .mul 4607182418800017408 (ex56v.getD (0 + k * 1) 0)) (exD.getD (0 + k * 2 + 1) 0)) 2 = 4630685579355357184 := by decide +kernel
theorem ex_dense {M : List Nat} (h : Dense ex1234 2 2 M) : M = exD := by
  obtain ⟨h1, h2⟩ := h
  have a0 := h2 0 (by omega)
  have a1 := h2 1 (by omega)
  have a2 := h2 2 (by omega)
  have a3 := h2 3 (by omega)
  simp [spot] at a0 a1 a2 a3
  match M, h1 with
  | [x0, x1, x2, x3], _ => simp [ex1234] at a0 a1 a2 a3; simp [exD, a0, a1, a2, a3]
theorem ex_mul {m : List Nat} (hl : m.length = 2) (h : ∀ q, q < 2 → MulQ 4607182418800017408 0 ex99 0 1 exD 0 2 2 ex56v 0 1 q (m.getD q 0)) : m = ex1739 := by
  have h0 := (h 0 (by omega)).is_ (by omega) (by omega) ex99_wds exD_wds ex56v_wds
  have h1 := (h 1 (by omega)).is_ (by omega) (by omega) ex99_wds exD_wds ex56v_wds
  have e0 := h0.eq_of (by rw [show ex99.getD (0 + 0 * 1) 0 = 4621256167635550208 from rfl, ex_f0]; decide)
  have e1 := h1.eq_of (by rw [show ex99.getD (0 + 1 * 1) 0 = 4621256167635550208 from rfl, ex_f1]; decide)
  rw [show ex99.getD (0 + 0 * 1) 0 = 4621256167635550208 from rfl, ex_f0] at e0
  rw [show ex99.getD (0 + 1 * 1) 0 = 4621256167635550208 from rfl, ex_f1] at e1
  match m, hl with
  | [x0, x1], _ => simp at e0 e1; simp [ex1739, e0, e1]

end Go.Proofs.Ytbeefnekblepfaa
