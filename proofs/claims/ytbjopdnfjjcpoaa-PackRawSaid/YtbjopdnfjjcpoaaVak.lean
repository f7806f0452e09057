/-
The example; Great; Take. Conditions: as each says.
-/
import Derived.Test.YtbjopdnfjjcpoaaZMvH
import Derived.Test.YtbjopdnfjjcpoaaVad
set_option linter.unusedVariables false
namespace Go.Proofs.Ytbjopdnfjjcpoaa
open Go.RowKit
attribute [local go_sem ↓] Go.wp_at_zero Go.wp_at_succ

theorem img_ex {l' : List Nat} {a b c d : Nat} (h : Img [a, b, c, d] 0 2 2 2 (fun x y => ([a, b, c, d] : List Nat).getD (0 + sw 0 1 x + y * 2) 0) l') : l' = [b, a, d, c] := by
  obtain ⟨h1, h2, h3⟩ := h
  refine ext_getD (by simpa using h1) fun i hi => ?_
  have hi4 : i < 4 := by simp at h1; omega
  have q0 := h2 0 (by omega) 0 (by omega)
  have q1 := h2 1 (by omega) 0 (by omega)
  have q2 := h2 0 (by omega) 1 (by omega)
  have q3 := h2 1 (by omega) 1 (by omega)
  simp [sw] at q0 q1 q2 q3
  match i, hi4 with
  | 0, _ => simpa using q0
  | 1, _ => simpa using q1
  | 2, _ => simpa using q2
  | 3, _ => simpa using q3
theorem four_wds4 : Wds [4613937818241073152, 4607182418800017408, 4616189618054758400, 4611686018427387904] := by
  intro b hb
  simp at hb
  omega

/-- Is there more of a matrix than is looked at? -/
def greatB (n : Nat) (r k : Int) : Bool := decide (1000 < n) || decide (20 < r) || decide (20 < k)
theorem great_any (A : Option Addr) (n c : Nat) (off r k ld : Int) (w : World) : Calls Try.prog 7 #[mat A n c off r k ld] w fun e w' => e = .returned (.bool (greatB n r k)) ∧ Below w.heap.size w w' := by
  have hbel := fun (o : Obj) => (Below.refl w.heap.size w).alloc (Nat.le_refl _) o
  have e0 : decide ((1000 : Int) < (n : Int)) = decide (1000 < n) := decide_eq_decide.2 (by omega)
  unfold mat greatB
  by_cases h1 : (1000 : Int) < (n : Int)
  · have h2 : decide (1000 < n) = true := by simp; omega
    rw [h2]
    go_enter Try.func7, Try.ntmps7
    go_wp2_with fail
    go_ret
    exact ⟨by simp, hbel _⟩
  · have h2 : decide (1000 < n) = false := by simp; omega
    rw [h2]
    by_cases h3 : 20 < r
    · go_enter Try.func7, Try.ntmps7
      go_wp2_with fail
      go_ret
      exact ⟨by simp <;> omega, hbel _⟩
    · go_enter Try.func7, Try.ntmps7
      go_wp2_with fail
      go_ret
      exact ⟨by simp <;> omega, hbel _⟩
end Go.Proofs.Ytbjopdnfjjcpoaa
/-
Take: rows that change places in an order. Conditions: as each says.
-/
set_option linter.unusedVariables false
namespace Go.Proofs.Ytbjopdnfjjcpoaa
open Go.RowKit
attribute [local go_sem ↓] Go.wp_at_zero Go.wp_at_succ

/-- Is each from its own place to r - 1? -/
def OrdOk (r : Int) (zs : List Int) (k : Nat) : Prop := ∀ i (h : i < zs.length), i < k → (i : Int) ≤ zs[i] ∧ zs[i] < r
/-- The answer of takes. -/
def TakesI (n : Nat) (off r k ld : Int) (zs : List Int) (e : Int) : Prop :=
  (matB n off r k ld = false ∧ e = 1) ∨ (matB n off r k ld = true ∧ r < zs.length ∧ e = 3) ∨ (matB n off r k ld = true ∧ (zs.length : Int) ≤ r ∧ ((e = 0 ∧ OrdOk r zs zs.length) ∨ (e = 1 ∧ ¬ OrdOk r zs zs.length)))

/-- The row that stands at a when the first k changes of the order have been made. -/
def prm (zs : List Int) : Nat → Nat → Nat
  | 0, a => a
  | k + 1, a => prm zs k (sw k (zs.getD k 0).toNat a)
theorem prm_lt {zs : List Int} {R : Nat} : ∀ {k : Nat}, OrdOk R zs k → k ≤ zs.length → ∀ {a : Nat}, a < R → prm zs k a < R
  | 0, _, _, a, ha => ha
  | k + 1, h, hk, a, ha => by
    have h1 := h k (by omega) (by omega)
    have e : zs.getD k 0 = zs[k] := by simp [List.getD, show k < zs.length by omega]
    refine prm_lt (k := k) (fun i hi hik => h i hi (by omega)) (by omega) (sw_lt (by omega) (by rw [e]; omega) ha)

theorem Img.step {l m m' : List Nat} {o R C L i j : Nat} {zs : List Int} {q : Nat} (h : Img l o R C L (fun a b => l.getD (o + prm zs q a + b * L) 0) m) (h' : Img m o R C L (fun a b => m.getD (o + sw i j a + b * L) 0) m') (hi : i < R) (hj : j < R) :
    Img l o R C L (fun a b => l.getD (o + prm zs q (sw i j a) + b * L) 0) m' :=
  (h.trans h').congr fun a ha b hb => h.2.1 _ (sw_lt hi hj ha) b hb

end Go.Proofs.Ytbjopdnfjjcpoaa
/-
MoveBack. Conditions: as each says.
-/
set_option linter.unusedVariables false
namespace Go.Proofs.Ytbjopdnfjjcpoaa
open Go.RowKit
attribute [local go_sem ↓] Go.wp_at_zero Go.wp_at_succ

theorem heldG6 {W w' : World} {G : List Nat} {b0 o0 b1 o1 b2 o2 b3 o3 b4 o4 b5 o5 : Nat} {v0 v1 v2 v3 v4 v5 : Value} {R : World → Prop} (h : W.cell? ⟨b0, o0, none⟩ = some v0 ∧ W.cell? ⟨b1, o1, none⟩ = some v1 ∧ W.cell? ⟨b2, o2, none⟩ = some v2 ∧ W.cell? ⟨b3, o3, none⟩ = some v3 ∧ W.cell? ⟨b4, o4, none⟩ = some v4 ∧ W.cell? ⟨b5, o5, none⟩ = some v5 ∧ R W) (hc : Chg G W w') (n0 : b0 ∉ G) (n1 : b1 ∉ G) (n2 : b2 ∉ G) (n3 : b3 ∉ G) (n4 : b4 ∉ G) (n5 : b5 ∉ G) (hR : R W → R w') :
    w'.cell? ⟨b0, o0, none⟩ = some v0 ∧ w'.cell? ⟨b1, o1, none⟩ = some v1 ∧ w'.cell? ⟨b2, o2, none⟩ = some v2 ∧ w'.cell? ⟨b3, o3, none⟩ = some v3 ∧ w'.cell? ⟨b4, o4, none⟩ = some v4 ∧ w'.cell? ⟨b5, o5, none⟩ = some v5 ∧ R w' :=
  ⟨hc.cell n0 h.1, hc.cell n1 h.2.1, hc.cell n2 h.2.2.1, hc.cell n3 h.2.2.2.1, hc.cell n4 h.2.2.2.2.1, hc.cell n5 h.2.2.2.2.2.1, hR h.2.2.2.2.2.2⟩
theorem row_lt {w : World} {B : Option Addr} {xs : List Value} (h : Row w B xs) (hne : xs ≠ []) : ∀ b x, B = some ⟨b, x, none⟩ → b < w.heap.size := by
  intro b x e
  rcases h with h | ⟨b', o', e', hc⟩
  · exact (hne h).elim
  · rw [e] at e'
    injection e' with e'
    injection e' with e1 e2 e3
    subst e1
    cases xs with
    | nil => exact (hne rfl).elim
    | cons v xs => exact block_lt (hc 0 v rfl)
theorem i64s_ne {zs : List Int} (h : zs ≠ []) : i64s zs ≠ [] := by
  cases zs with
  | nil => exact (h rfl).elim
  | cons a b => simp [i64s]

end Go.Proofs.Ytbjopdnfjjcpoaa
