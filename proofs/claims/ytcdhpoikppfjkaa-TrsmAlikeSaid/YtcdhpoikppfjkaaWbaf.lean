/-
The document's example; ViewRight. Conditions: none.
-/
import Derived.Test.YtcdhpoikppfjkaaZAVwC
import Derived.Deep.RegionWith
set_option linter.unusedVariables false
namespace Go.Proofs.Ytcdhpoikppfjkaa
open Go.RowKit
attribute [local go_sem ↓] Go.wp_at_zero Go.wp_at_succ

theorem run_field_D (A : Option Addr) (n c : Nat) (off r k ld : Int) (w : World) :
    (Instr.field 24 (.agg #[.slice A n c, .int .i64 off, .int .i64 r, .int .i64 k, .int .i64 ld]) 0).run Try.prog w = .ok (.slice A n c) w := by kernel_rfl
attribute [go_sem] run_field_D
theorem dense_ex {M : List Nat} {a b c d : Nat} (h : Dense [a, b, c, d] 2 2 M) : M = [a, c, b, d] := by
  obtain ⟨hl, hp⟩ := h
  match M, hl with
  | [x0, x1, x2, x3], _ =>
    have h0 := hp 0 (by omega)
    have h1 := hp 1 (by omega)
    have h2 := hp 2 (by omega)
    have h3 := hp 3 (by omega)
    simp [spot] at h0 h1 h2 h3
    simp [h0, h1, h2, h3]
end Go.Proofs.Ytcdhpoikppfjkaa
/-
The document's table of a right matrix. Conditions: the table has at most 2^40 numbers.
-/
set_option linter.unusedVariables false
namespace Go.Proofs.Ytcdhpoikppfjkaa
open Go.RowKit
attribute [local go_sem ↓] Go.wp_at_zero Go.wp_at_succ

/-- The first q numbers of the table stand there. -/
def Tab (l : List Nat) (off r k ld q : Nat) (T : List Nat) : Prop := T.length = r * k ∧ ∀ i j, i < r → j < k → i * k + j < q → T.getD (i * k + j) 0 = l.getD (off + i + j * ld) 0
theorem Tab.zero (l : List Nat) (off r k ld : Nat) : Tab l off r k ld 0 (List.replicate (r * k) 0) := ⟨by simp, fun i j _ _ h => by omega⟩
theorem tab_lt {r k i j : Nat} (hi : i < r) (hj : j < k) : i * k + j < r * k := by
  calc i * k + j < i * k + k := by omega
    _ = (i + 1) * k := by rw [Nat.add_mul, Nat.one_mul]
    _ ≤ r * k := Nat.mul_le_mul_right _ hi
theorem Tab.step {l : List Nat} {off r k ld i j : Nat} {T : List Nat} (h : Tab l off r k ld (i * k + j) T) (hi : i < r) (hj : j < k) :
    Tab l off r k ld (i * k + (j + 1)) (T.set (i * k + j) (l.getD (off + i + j * ld) 0)) := by
  have hlt := tab_lt hi hj
  refine ⟨by rw [List.length_set]; exact h.1, fun a b ha hb hab => ?_⟩
  by_cases e : a * k + b = i * k + j
  · have hk : 0 < k := by omega
    have e1 : a = i := by
      have h1 : (a * k + b) / k = a := by rw [Nat.add_comm, Nat.add_mul_div_right _ _ hk, Nat.div_eq_of_lt hb, Nat.zero_add]
      have h2 : (i * k + j) / k = i := by rw [Nat.add_comm, Nat.add_mul_div_right _ _ hk, Nat.div_eq_of_lt hj, Nat.zero_add]
      rw [← h1, e, h2]
    subst e1
    obtain rfl : b = j := by omega
    simp [List.getD, h.1, hlt]
  · rw [List.getD, List.getElem?_set_ne (fun e' => e e'.symm)]
    have := h.2 a b ha hb (by omega)
    rw [List.getD] at this
    exact this
theorem Tab.next {l : List Nat} {off r k ld i j : Nat} {T : List Nat} (h : Tab l off r k ld (i * k + j) T) (hj : j = k) : Tab l off r k ld ((i + 1) * k) T := by
  subst hj
  rw [Nat.add_mul, Nat.one_mul]; exact h

end Go.Proofs.Ytcdhpoikppfjkaa
