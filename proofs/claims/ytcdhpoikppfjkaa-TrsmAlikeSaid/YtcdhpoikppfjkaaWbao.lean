/-
Trsv: the same numbers, the same solution; the law's example. Conditions: as each says.
-/
import Derived.Test.YtcdhpoikppfjkaaZATrF
import Derived.Test.YtcdhpoikppfjkaaWbae
import Derived.Test.YtcdhpoikppfjkaaZAVwC
import Derived.Test.YtcdhpoikppfjkaaWbaf
import Derived.Test.YtcdhpoikppfjkaaZAVwM
import Derived.Test.YtcdhpoikppfjkaaWbal
import Derived.Test.YtcdhpoikppfjkaaZAMvF
import Derived.Test.YtcdhpoikppfjkaaWbah
import Derived.Test.YtcdhpoikppfjkaaWbak
import Derived.Test.YtcdhpoikppfjkaaWbag
set_option linter.unusedVariables false
set_option linter.unusedSimpArgs false
set_option linter.unnecessarySimpa false
namespace Go.Proofs.Ytcdhpoikppfjkaa
open Go.RowKit
attribute [local go_sem ↓] Go.wp_at_zero Go.wp_at_succ

/-- The same numbers, the same solution. -/
theorem TrS.agree {kd n : Nat} {a a' : Nat → Nat → Nat} {x x' : Nat → Nat} {E : Nat → Nat → Nat} {F : Nat → Nat} (hk : kd = 1 ∨ kd = 2 ∨ kd = 3 ∨ kd = 4) (ha : ∀ p, p < n → ∀ q, q < n → a p q = a' p q) (hx : ∀ p, p < n → x p = x' p) (h : TrS kd n a x E F) : TrS kd n a' x' E F :=
  ⟨fun p hp => by rw [h.zero p hp, hx p hp], fun p hp t ht => by rw [h.step p hp t ht, ha p hp _ (trO_early hk hp ht).1], fun p hp => by rw [h.last p hp, ha p hp p hp]⟩
theorem MxC.of_row {w : World} {A : Option Addr} {l : List Nat} {n o R L : Nat} (h : Row w A (f64s l)) (hl : l.length = n) (hmr : R = 0 ∨ R = 0 ∨ o + (R - 1) * L + (R - 1) < n) : MxC w A o R L (fun i k => l.getD (o + i + k * L) 0) := fun i hi k hk => by
  have hP : o + i + k * L < l.length := by rw [hl]; exact tr_lt hmr hi hk
  obtain ⟨b, x, e, _, hc⟩ := h.at_ (f64s_get l _ hP)
  exact ⟨b, x, e, by show w.cell? _ = some (.float .f64 (l.getD (o + i + k * L) 0)); rw [getD_of_lt hP]; exact hc⟩
def exT1 : List Nat := [4616189618054758400, 4620693217682128896]
def exT2 : List Nat := [4611686018427387904, 4607182418800017408, 0, 4616189618054758400]
def exT3 : List Nat := [4611686018427387904, 0, 4607182418800017408, 4616189618054758400]
theorem exT3_wds : Wds exT3 := by intro b hb; simp [exT3] at hb; omega
/-- The example's solution. -/
theorem ex_trs {E : Nat → Nat → Nat} {F : Nat → Nat} (h : TrS 2 2 (trV 2 (fun i k => exT3.getD (0 + i + k * 2) 0)) (fun p => exT1.getD (0 + p * 1) 0) E F) : F 0 = 4607182418800017408 ∧ F 1 = 4611686018427387904 := by
  have h1 : F 1 = fbin .quo (E 1 0) (trV 2 (fun i k => exT3.getD (0 + i + k * 2) 0) 1 1) := h.last 1 (by omega)
  rw [h.zero 1 (by omega)] at h1
  have h2 : F 1 = 4611686018427387904 := h1.trans (by decide +kernel)
  have h3 : E 0 1 = fbin .sub (E 0 0) (fbin .mul (trV 2 (fun i k => exT3.getD (0 + i + k * 2) 0) 0 1) (F 1)) := h.step 0 (by omega) 0 (by decide)
  rw [h.zero 0 (by omega), h2] at h3
  have h4 : E 0 1 = 4611686018427387904 := h3.trans (by decide +kernel)
  have h5 : F 0 = fbin .quo (E 0 1) (trV 2 (fun i k => exT3.getD (0 + i + k * 2) 0) 0 0) := h.last 0 (by omega)
  rw [h4] at h5
  exact ⟨h5.trans (by decide +kernel), h2⟩
end Go.Proofs.Ytcdhpoikppfjkaa
/-
Gemm: Mul over lists of the call's own. Conditions: as each says.
-/
set_option linter.unusedVariables false
set_option linter.unusedSimpArgs false
set_option linter.unnecessarySimpa false
namespace Go.Proofs.Ytcdhpoikppfjkaa
open Go.RowKit
attribute [local go_sem ↓] Go.wp_at_zero Go.wp_at_succ

theorem Chn.congr {S S' : Nat → Nat → Nat → Prop} {y : Nat} : ∀ {k r : Nat}, (∀ j, j < k → ∀ s r, S j s r → S' j s r) → Chn S y k r → Chn S' y k r
  | 0, _, _, h => h
  | k + 1, _, hS, ⟨s, h1, h2⟩ => ⟨s, Chn.congr (fun j hj => hS j (by omega)) h1, hS k (by omega) _ _ h2⟩
theorem MulQ.congr {a b : Nat} {l l' : List Nat} {o i : Nat} {lm lm' : List Nat} {om C L : Nat} {lx lx' : List Nat} {ox ox' ix q r : Nat} (h1 : l.getD (o + q * i) 0 = l'.getD (o + q * i) 0) (h2 : ∀ k, k < C → lm.getD (om + k * L + q) 0 = lm'.getD (om + k * L + q) 0) (h3 : ∀ k, k < C → lx.getD (ox + k * ix) 0 = lx'.getD (ox' + k * ix) 0) (h : MulQ a b l o i lm om C L lx ox ix q r) : MulQ a b l' o i lm' om C L lx' ox' ix q r := by
  obtain ⟨s, h4, h5⟩ := h
  rw [h1] at h4
  refine ⟨s, h4, h5.congr fun j hj s r h => ?_⟩
  unfold ColS at h ⊢
  rw [h2 j hj, h3 j hj] at h
  exact h
theorem MulQ.lt {a b : Nat} {l : List Nat} {o i : Nat} {lm : List Nat} {om C L : Nat} {lx : List Nat} {ox ix q r : Nat} (h : MulQ a b l o i lm om C L lx ox ix q r) : r < 18446744073709551616 := by
  obtain ⟨s, h4, h5⟩ := h
  cases C with
  | zero =>
    have h5 : r = s := h5
    rw [h5]; exact h4.lt
  | succ k =>
    obtain ⟨s2, _, p, _, h6⟩ := h5
    exact h6.1
/-- What Mul makes of a number. -/
def GeR (a b : Nat) (l : List Nat) (o L : Nat) (lx : List Nat) (om Lm : Nat) (ly : List Nat) (oy Ly K : Nat) (i j r : Nat) : Prop := MulQ a b l (o + j * L) 1 lx om K Lm ly (oy + j * Ly) 1 i r
theorem GeR.lt {a b : Nat} {l : List Nat} {o L : Nat} {lx : List Nat} {om Lm : Nat} {ly : List Nat} {oy Ly K : Nat} {i j r : Nat} (h : GeR a b l o L lx om Lm ly oy Ly K i j r) : r < 18446744073709551616 := MulQ.lt h
end Go.Proofs.Ytcdhpoikppfjkaa
