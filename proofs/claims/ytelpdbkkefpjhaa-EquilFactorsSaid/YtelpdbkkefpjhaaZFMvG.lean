/-
Rows: two rows change places. Conditions: the matrix' list is the call's own, or the caller's.
-/
import Derived.Test.YtelpdbkkefpjhaaZFMvF
import Derived.Test.YtelpdbkkefpjhaaFInv
set_option linter.unusedVariables false
set_option linter.unusedSimpArgs false
set_option linter.unnecessarySimpa false
namespace Go.Proofs.Ytelpdbkkefpjhaa
open Go.RowKit
attribute [local go_sem ↓] Go.wp_at_zero Go.wp_at_succ

/-- What a region has made so far: its variables p and q hold these, or their first values. -/
def Two (w0 : World) (t : TypeId) (z a b : Array Value) (da db sa sb : Bool) (va vb : Value) (W : World) : Prop :=
  Below w0.heap.size w0 W ∧ (da = true → ∃ p, va = .pointer (some ⟨p, 0, none⟩) ∧ w0.heap.size ≤ p ∧ Blk W p t (if sa then a else z)) ∧
    (db = true → ∃ p, vb = .pointer (some ⟨p, 0, none⟩) ∧ w0.heap.size ≤ p ∧ Blk W p t (if sb then b else z)) ∧ (da = true → db = true → va ≠ vb)
section
variable {w0 W W' : World} {t : TypeId} {z a b : Array Value} {da db sa sb : Bool} {va vb : Value}
theorem Two.nxt (h : Two w0 t z a b da db sa sb va vb W) (hb : Below W.heap.size W W') : Two w0 t z a b da db sa sb va vb W' :=
  ⟨below_nx h.1 hb, fun e => by
    obtain ⟨p, h1, h2, h3⟩ := h.2.1 e
    exact ⟨p, h1, h2, h3.nxt hb⟩, fun e => by
    obtain ⟨p, h1, h2, h3⟩ := h.2.2.1 e
    exact ⟨p, h1, h2, h3.nxt hb⟩, h.2.2.2⟩
end
end Go.Proofs.Ytelpdbkkefpjhaa
