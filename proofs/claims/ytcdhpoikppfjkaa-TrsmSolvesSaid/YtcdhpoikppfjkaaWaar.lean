/-
Trsv: the same numbers, the same solution; the law's example. Conditions: as each says.
-/
import Derived.Test.YtcdhpoikppfjkaaZYTrF
import Derived.Test.YtcdhpoikppfjkaaWaad
import Derived.Test.YtcdhpoikppfjkaaZYVwC
import Derived.Test.YtcdhpoikppfjkaaWaae
import Derived.Test.YtcdhpoikppfjkaaWaag
import Derived.Test.YtcdhpoikppfjkaaWaan
import Derived.Test.YtcdhpoikppfjkaaWaah
import Derived.Test.YtcdhpoikppfjkaaWaai
import Derived.Test.YtcdhpoikppfjkaaWaam
set_option linter.unusedVariables false
set_option linter.unusedSimpArgs false
set_option linter.unnecessarySimpa false
namespace Go.Proofs.Ytcdhpoikppfjkaa
open Go.RowKit
attribute [local go_sem ↓] Go.wp_at_zero Go.wp_at_succ

/-- The same numbers, the same solution. -/
theorem TrS.agree {kd n : Nat} {a a' : Nat → Nat → Nat} {x x' : Nat → Nat} {E : Nat → Nat → Nat} {F : Nat → Nat} (hk : kd = 1 ∨ kd = 2 ∨ kd = 3 ∨ kd = 4) (ha : ∀ p, p < n → ∀ q, q < n → a p q = a' p q) (hx : ∀ p, p < n → x p = x' p) (h : TrS kd n a x E F) : TrS kd n a' x' E F :=
  ⟨fun p hp => by rw [h.zero p hp, hx p hp], fun p hp t ht => by rw [h.step p hp t ht, ha p hp _ (trO_early hk hp ht).1], fun p hp => by rw [h.last p hp, ha p hp p hp]⟩
theorem trHZ_agree {kd R : Nat} {f f' : Nat → Nat → Nat} (h : ∀ p, p < R → ∀ q, q < R → f p q = f' p q) : trHZ kd f R = trHZ kd f' R := by
  unfold trHZ
  rw [Bool.eq_iff_iff, List.any_eq_true, List.any_eq_true]
  have e : ∀ i, i < R → trV kd f i i = trV kd f' i i := fun i hi => by unfold trV; rw [h i hi i hi]
  constructor <;> rintro ⟨i, hi, hz⟩ <;> refine ⟨i, hi, ?_⟩
  · rw [← e i (List.mem_range.1 hi)]; exact hz
  · rw [e i (List.mem_range.1 hi)]; exact hz
theorem trV_agree {kd R : Nat} {f f' : Nat → Nat → Nat} (h : ∀ p, p < R → ∀ q, q < R → f p q = f' p q) : ∀ p, p < R → ∀ q, q < R → trV kd f p q = trV kd f' p q := fun p hp q hq => by unfold trV; rw [h p hp q hq, h q hq p hp]
theorem MxC.of_row {w : World} {A : Option Addr} {l : List Nat} {n o R L : Nat} (h : Row w A (f64s l)) (hl : l.length = n) (hmr : R = 0 ∨ R = 0 ∨ o + (R - 1) * L + (R - 1) < n) : MxC w A o R L (fun i k => l.getD (o + i + k * L) 0) := fun i hi k hk => by
  have hP : o + i + k * L < l.length := by rw [hl]; exact tr_lt hmr hi hk
  obtain ⟨b, x, e, _, hc⟩ := h.at_ (f64s_get l _ hP)
  exact ⟨b, x, e, by show w.cell? _ = some (.float .f64 (l.getD (o + i + k * L) 0)); rw [getD_of_lt hP]; exact hc⟩
def exT1 : List Nat := [4616189618054758400, 4620693217682128896]
def exT2 : List Nat := [4611686018427387904, 4607182418800017408, 0, 4616189618054758400]
def exT3 : List Nat := [4611686018427387904, 0, 4607182418800017408, 4616189618054758400]
theorem exT3_wds : Wds exT3 := by intro b hb; simp [exT3] at hb; omega
/-- The example's solution. -/
theorem ex_trs {E : Nat → Nat → Nat} {F : Nat → Nat} (h : TrS 2 2 (trV 2 (fun i k => exT3.getD (0 + i + k * 2) 0)) (fun p => exT1.getD (0 + p * 1) 0) E F) : F 0 = 4607182418800017408 ∧ F 1 = 4611686018427387904 := by
  have h1 : F 1 = fbin .quo (E 1 0) (trV 2 (fun i k => exT3.getD (0 + i + k * 2) 0) 1 1) := h.last 1 (by omega)
  rw [h.zero 1 (by omega)] at h1
  have h2 : F 1 = 4611686018427387904 := h1.trans (by decide +kernel)
  have h3 : E 0 1 = fbin .sub (E 0 0) (fbin .mul (trV 2 (fun i k => exT3.getD (0 + i + k * 2) 0) 0 1) (F 1)) := h.step 0 (by omega) 0 (by decide)
  rw [h.zero 0 (by omega), h2] at h3
  have h4 : E 0 1 = 4611686018427387904 := h3.trans (by decide +kernel)
  have h5 : F 0 = fbin .quo (E 0 1) (trV 2 (fun i k => exT3.getD (0 + i + k * 2) 0) 0 0) := h.last 0 (by omega)
  rw [h4] at h5
  exact ⟨h5.trans (by decide +kernel), h2⟩
end Go.Proofs.Ytcdhpoikppfjkaa
/-
Gemm: Mul over lists of the call's own. Conditions: as each says.
-/
set_option linter.unusedVariables false
set_option linter.unusedSimpArgs false
set_option linter.unnecessarySimpa false
namespace Go.Proofs.Ytcdhpoikppfjkaa
open Go.RowKit
attribute [local go_sem ↓] Go.wp_at_zero Go.wp_at_succ

theorem cast_off {o K i : Nat} (h : K ≠ 0) : (o : Int) + ((K : Int) - 1) * (i : Int) = ((o + (K - 1) * i : Nat) : Int) := by
  have e : (K : Int) - 1 = ((K - 1 : Nat) : Int) := by omega
  rw [e]
  simp
theorem last_mat {o R C L : Nat} (hR : R ≠ 0) (hC : C ≠ 0) : lastI (o : Int) (R : Int) (C : Int) (L : Int) = ((o + (C - 1) * L + (R - 1) : Nat) : Int) := by
  unfold lastI
  have e : (R : Int) - 1 = ((R - 1 : Nat) : Int) := by omega
  have := cast_off (o := o) (K := C) (i := L) hC
  rw [e]
  generalize ((C : Int) - 1) * (L : Int) = p at *
  generalize (C - 1) * L = q at *
  omega
theorem Chn.congr {S S' : Nat → Nat → Nat → Prop} {y : Nat} : ∀ {k r : Nat}, (∀ j, j < k → ∀ s r, S j s r → S' j s r) → Chn S y k r → Chn S' y k r
  | 0, _, _, h => h
  | k + 1, _, hS, ⟨s, h1, h2⟩ => ⟨s, Chn.congr (fun j hj => hS j (by omega)) h1, hS k (by omega) _ _ h2⟩
theorem MulQ.congr {a b : Nat} {l l' : List Nat} {o i : Nat} {lm lm' : List Nat} {om C L : Nat} {lx lx' : List Nat} {ox ox' ix q r : Nat} (h1 : l.getD (o + q * i) 0 = l'.getD (o + q * i) 0) (h2 : ∀ k, k < C → lm.getD (om + k * L + q) 0 = lm'.getD (om + k * L + q) 0) (h3 : ∀ k, k < C → lx.getD (ox + k * ix) 0 = lx'.getD (ox' + k * ix) 0) (h : MulQ a b l o i lm om C L lx ox ix q r) : MulQ a b l' o i lm' om C L lx' ox' ix q r := by
  obtain ⟨s, h4, h5⟩ := h
  rw [h1] at h4
  refine ⟨s, h4, h5.congr fun j hj s r h => ?_⟩
  unfold ColS at h ⊢
  rw [h2 j hj, h3 j hj] at h
  exact h
theorem MulQ.lt {a b : Nat} {l : List Nat} {o i : Nat} {lm : List Nat} {om C L : Nat} {lx : List Nat} {ox ix q r : Nat} (h : MulQ a b l o i lm om C L lx ox ix q r) : r < 18446744073709551616 := by
  obtain ⟨s, h4, h5⟩ := h
  cases C with
  | zero =>
    have h5 : r = s := h5
    rw [h5]; exact h4.lt
  | succ k =>
    obtain ⟨s2, _, p, _, h6⟩ := h5
    exact h6.1
/-- What Mul makes of a number. -/
def GeR (a b : Nat) (l : List Nat) (o L : Nat) (lx : List Nat) (om Lm : Nat) (ly : List Nat) (oy Ly K : Nat) (i j r : Nat) : Prop := MulQ a b l (o + j * L) 1 lx om K Lm ly (oy + j * Ly) 1 i r
theorem GeR.lt {a b : Nat} {l : List Nat} {o L : Nat} {lx : List Nat} {om Lm : Nat} {ly : List Nat} {oy Ly K : Nat} {i j r : Nat} (h : GeR a b l o L lx om Lm ly oy Ly K i j r) : r < 18446744073709551616 := MulQ.lt h
/-- Spans that lie apart. -/
def Away (o R C L o' R' C' L' : Nat) : Prop := (R' = 0 ∨ C' = 0) ∨ (R = 0 ∨ C = 0) ∨ o + (C - 1) * L + (R - 1) < o' ∨ o' + (C' - 1) * L' + (R' - 1) < o
/-- A matrix in lists of the call's own: they don't meet. -/
theorem own_away (g gx c cx : Nat) (l lx : List Nat) (n nx : Nat) (o r k L ox rx kx Lx : Int) (W : World) (hO : Own W g l) (hX : Own W gx lx) (hl : l.length = n) (hlx : lx.length = nx) (hn : n < 1048576) (hnx : nx < 1048576) (ho : I64 o) (hr : I64 r) (hk : I64 k) (hL : I64 L) (hox : I64 ox) (hrx : I64 rx) (hkx : I64 kx) (hLx : I64 Lx)
    (h : gx = g → (bothB n o r k L nx ox rx kx Lx && (decide (o ≤ lastI ox rx kx Lx) && decide (ox ≤ lastI o r k L))) = false) :
    Calls Try.prog 30 #[mat (some ⟨g, 0, none⟩) n c o r k L, mat (some ⟨gx, 0, none⟩) nx cx ox rx kx Lx] W fun e w' => e = .returned (.bool false) ∧ Below W.heap.size W w' := by
  have := meet_own g gx c cx l lx o r k L ox rx kx Lx W hO hX (by omega) ho hr hk hL (by omega) hox hrx hkx hLx
  rw [hl, hlx] at this
  have e : (bothB n o r k L nx ox rx kx Lx && decide (g = gx) && (decide (o ≤ lastI ox rx kx Lx) && decide (ox ≤ lastI o r k L))) = false := by
    by_cases e : gx = g
    · have := h e
      rw [show decide (g = gx) = true from decide_eq_true e.symm, Bool.and_true]
      exact this
    · rw [show decide (g = gx) = false from decide_eq_false (fun h => e h.symm), Bool.and_false, Bool.false_and]
  rw [e] at this
  exact this
end Go.Proofs.Ytcdhpoikppfjkaa
