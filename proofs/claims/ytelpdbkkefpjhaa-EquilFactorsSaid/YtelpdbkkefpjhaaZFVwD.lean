/-
The document's example; ViewRight. Conditions: none.
-/
import Derived.Test.YtelpdbkkefpjhaaZFVwC
set_option linter.unusedVariables false
namespace Go.Proofs.Ytelpdbkkefpjhaa
open Go.RowKit
attribute [local go_sem ↓] Go.wp_at_zero Go.wp_at_succ

theorem run_field_D (A : Option Addr) (n c : Nat) (off r k ld : Int) (w : World) :
    (Instr.field 24 (.agg #[.slice A n c, .int .i64 off, .int .i64 r, .int .i64 k, .int .i64 ld]) 0).run Try.prog w = .ok (.slice A n c) w := by kernel_rfl
attribute [go_sem] run_field_D
theorem dense_ex {M : List Nat} {a b c d : Nat} (h : Dense [a, b, c, d] 2 2 M) : M = [a, c, b, d] := by
  obtain ⟨hl, hp⟩ := h
  match M, hl with
  | [x0, x1, x2, x3], _ =>
    have h0 := hp 0 (by omega)
    have h1 := hp 1 (by omega)
    have h2 := hp 2 (by omega)
    have h3 := hp 3 (by omega)
    simp [spot] at h0 h1 h2 h3
    simp [h0, h1, h2, h3]
end Go.Proofs.Ytelpdbkkefpjhaa
