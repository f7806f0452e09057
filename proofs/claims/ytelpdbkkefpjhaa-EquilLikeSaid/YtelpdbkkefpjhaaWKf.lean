/-
Rows: two rows change places. Conditions: the matrix' list is the call's own, or the caller's.
-/
import Derived.Test.YtelpdbkkefpjhaaZKMvF
import Derived.Test.YtelpdbkkefpjhaaKInv
set_option linter.unusedVariables false
set_option linter.unusedSimpArgs false
set_option linter.unnecessarySimpa false
namespace Go.Proofs.Ytelpdbkkefpjhaa
open Go.RowKit
attribute [local go_sem ↓] Go.wp_at_zero Go.wp_at_succ

/-- What a region has made so far: its variables p and q hold these, or their first values. -/
def Two (w0 : World) (t : TypeId) (z a b : Array Value) (da db sa sb : Bool) (va vb : Value) (W : World) : Prop :=
  Below w0.heap.size w0 W ∧ (da = true → ∃ p, va = .pointer (some ⟨p, 0, none⟩) ∧ w0.heap.size ≤ p ∧ Blk W p t (if sa then a else z)) ∧
    (db = true → ∃ p, vb = .pointer (some ⟨p, 0, none⟩) ∧ w0.heap.size ≤ p ∧ Blk W p t (if sb then b else z)) ∧ (da = true → db = true → va ≠ vb)
section
variable {w0 W W' : World} {t : TypeId} {z a b : Array Value} {da db sa sb : Bool} {va vb : Value}
theorem Two.nxt (h : Two w0 t z a b da db sa sb va vb W) (hb : Below W.heap.size W W') : Two w0 t z a b da db sa sb va vb W' :=
  ⟨below_nx h.1 hb, fun e => by
    obtain ⟨p, h1, h2, h3⟩ := h.2.1 e
    exact ⟨p, h1, h2, h3.nxt hb⟩, fun e => by
    obtain ⟨p, h1, h2, h3⟩ := h.2.2.1 e
    exact ⟨p, h1, h2, h3.nxt hb⟩, h.2.2.2⟩
end
end Go.Proofs.Ytelpdbkkefpjhaa
/-
Rows of a matrix change places, in the list. Conditions: as each says.
-/
set_option linter.unusedVariables false
namespace Go.Proofs.Ytelpdbkkefpjhaa
open Go.RowKit
attribute [local go_sem ↓] Go.wp_at_zero Go.wp_at_succ

/-- A right matrix, in plain numbers. -/
theorem mat_nat {n : Nat} {off r k ld : Int} (h : matB n off r k ld = true) : ∃ o R C L : Nat, off = o ∧ r = R ∧ k = C ∧ ld = L ∧ 1 ≤ L ∧ R ≤ L ∧ (R = 0 ∨ C = 0 ∨ o + (C - 1) * L + (R - 1) < n) := by
  have h := of_decide_eq_true h
  refine ⟨off.toNat, r.toNat, k.toNat, ld.toNat, by omega, by omega, by omega, by omega, by omega, by omega, ?_⟩
  by_cases hr : r = 0
  · exact .inl (by omega)
  · by_cases hk : k = 0
    · exact .inr (.inl (by omega))
    · refine .inr (.inr ?_)
      have e : ((off.toNat + (k.toNat - 1) * ld.toNat + (r.toNat - 1) : Nat) : Int) = off + (k - 1) * ld + (r - 1) := by
        rw [Int.natCast_add, Int.natCast_add, Int.natCast_mul, Int.toNat_of_nonneg (by omega), Int.toNat_of_nonneg (by omega : 0 ≤ ld)]
        have e1 : ((k.toNat - 1 : Nat) : Int) = k - 1 := by omega
        have e2 : ((r.toNat - 1 : Nat) : Int) = r - 1 := by omega
        rw [e1, e2]
      omega
theorem mat_right {n o R C L : Nat} (hL : 1 ≤ L) (hR : R ≤ L) (h : R = 0 ∨ C = 0 ∨ o + (C - 1) * L + (R - 1) < n) : matB n (o : Int) (R : Int) (C : Int) (L : Int) = true := by
  refine decide_eq_true ⟨by omega, by omega, by omega, by omega, by omega, ?_⟩
  rcases Nat.eq_zero_or_pos R with h0 | h0
  · exact .inl (by omega)
  rcases Nat.eq_zero_or_pos C with h1 | h1
  · exact .inr (.inl (by omega))
  have h2 : o + (C - 1) * L + (R - 1) < n := by omega
  refine .inr (.inr ?_)
  have e : ((C : Int) - 1) * (L : Int) = (((C - 1) * L : Nat) : Int) := by rw [Int.natCast_mul]; congr 1; omega
  rw [e]; omega

/-- The list has the table T at the matrix' places, and is else as it was. -/
def Img (l : List Nat) (o R C L : Nat) (T : Nat → Nat → Nat) (l' : List Nat) : Prop :=
  l'.length = l.length ∧ (∀ a, a < R → ∀ b, b < C → l'.getD (o + a + b * L) 0 = T a b) ∧ ∀ x, (∀ a, a < R → ∀ b, b < C → x ≠ o + a + b * L) → l'.getD x 0 = l.getD x 0
theorem Img.refl (l : List Nat) (o R C L : Nat) : Img l o R C L (fun a b => l.getD (o + a + b * L) 0) l := ⟨rfl, fun _ _ _ _ => rfl, fun _ _ => rfl⟩
theorem Img.trans {l m m' : List Nat} {o R C L : Nat} {T T' : Nat → Nat → Nat} (h : Img l o R C L T m) (h' : Img m o R C L T' m') : Img l o R C L T' m' :=
  ⟨h'.1.trans h.1, h'.2.1, fun x hx => (h'.2.2 x hx).trans (h.2.2 x hx)⟩
theorem Img.congr {l m : List Nat} {o R C L : Nat} {T T' : Nat → Nat → Nat} (h : Img l o R C L T m) (e : ∀ a, a < R → ∀ b, b < C → T a b = T' a b) : Img l o R C L T' m :=
  ⟨h.1, fun a ha b hb => (h.2.1 a ha b hb).trans (e a ha b hb), h.2.2⟩
theorem spots_inj {L a b a' b' : Nat} (ha : a < L) (ha' : a' < L) (h : a + b * L = a' + b' * L) : a = a' ∧ b = b' := by
  have h1 : (a + b * L) % L = a := by rw [Nat.add_mul_mod_self_right, Nat.mod_eq_of_lt ha]
  have h2 : (a' + b' * L) % L = a' := by rw [Nat.add_mul_mod_self_right, Nat.mod_eq_of_lt ha']
  have e : a = a' := by rw [← h1, h, h2]
  subst e
  have hL : 0 < L := Nat.lt_of_le_of_lt (Nat.zero_le _) ha
  have hm : b * L = b' * L := by omega
  exact ⟨rfl, Nat.eq_of_mul_eq_mul_right hL hm⟩
/-- The row that stands at a when rows i and j have changed places. -/
def sw (i j a : Nat) : Nat := if a = i then j else if a = j then i else a
theorem sw_lt {i j a R : Nat} (hi : i < R) (hj : j < R) (ha : a < R) : sw i j a < R := by unfold sw; split <;> (try split) <;> omega
end Go.Proofs.Ytelpdbkkefpjhaa
