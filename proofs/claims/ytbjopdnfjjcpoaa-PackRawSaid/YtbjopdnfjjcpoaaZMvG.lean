/-
Rows: two rows change places. Conditions: the matrix' list is the call's own, or the caller's.
-/
import Derived.Test.YtbjopdnfjjcpoaaZMvF
import Derived.Test.YtbjopdnfjjcpoaaInv
set_option linter.unusedVariables false
set_option linter.unusedSimpArgs false
set_option linter.unnecessarySimpa false
namespace Go.Proofs.Ytbjopdnfjjcpoaa
open Go.RowKit
attribute [local go_sem ↓] Go.wp_at_zero Go.wp_at_succ

/-- What a region has made so far: its variables p and q hold these, or their first values. -/
def Two (w0 : World) (t : TypeId) (z a b : Array Value) (da db sa sb : Bool) (va vb : Value) (W : World) : Prop :=
  Below w0.heap.size w0 W ∧ (da = true → ∃ p, va = .pointer (some ⟨p, 0, none⟩) ∧ w0.heap.size ≤ p ∧ Blk W p t (if sa then a else z)) ∧
    (db = true → ∃ p, vb = .pointer (some ⟨p, 0, none⟩) ∧ w0.heap.size ≤ p ∧ Blk W p t (if sb then b else z)) ∧ (da = true → db = true → va ≠ vb)
section
variable {w0 W W' : World} {t : TypeId} {z a b : Array Value} {da db sa sb : Bool} {va vb : Value}
theorem Two.nxt (h : Two w0 t z a b da db sa sb va vb W) (hb : Below W.heap.size W W') : Two w0 t z a b da db sa sb va vb W' :=
  ⟨below_nx h.1 hb, fun e => by
    obtain ⟨p, h1, h2, h3⟩ := h.2.1 e
    exact ⟨p, h1, h2, h3.nxt hb⟩, fun e => by
    obtain ⟨p, h1, h2, h3⟩ := h.2.2.1 e
    exact ⟨p, h1, h2, h3.nxt hb⟩, h.2.2.2⟩
theorem Two.alloc1 (h : Two w0 t z a b false db false sb va vb W) : Two w0 t z a b true db false sb (.pointer (some ⟨W.heap.size, 0, none⟩)) vb (W.alloc (.cells z t)) :=
  ⟨below_al h.1, fun _ => ⟨_, rfl, h.1.size, Blk.new W t z⟩, fun e => by
    obtain ⟨p, h1, h2, h3⟩ := h.2.2.1 e
    exact ⟨p, h1, h2, h3.alloc _⟩, fun _ e => by
    obtain ⟨p, h1, h2, h3⟩ := h.2.2.1 e
    subst h1
    intro e2
    have := h3.lt
    have e3 : W.heap.size = p := by injection e2 with e2; injection e2 with e2; injection e2
    omega⟩
theorem Two.turn (h : Two w0 t z a b da db sa sb va vb W) : Two w0 t z b a db da sb sa vb va W := ⟨h.1, h.2.2.1, h.2.1, fun e e' => fun e2 => h.2.2.2 e' e e2.symm⟩
theorem Two.alloc2 (h : Two w0 t z a b da false sa false va vb W) : Two w0 t z a b da true sa false va (.pointer (some ⟨W.heap.size, 0, none⟩)) (W.alloc (.cells z t)) := h.turn.alloc1.turn
/-- Only block p of type t has changed, and into this. -/
theorem Two.store1 {p : Nat} (h : Two w0 t z a b true db false sb (.pointer (some ⟨p, 0, none⟩)) vb W) (hb : ∀ k, k ≠ p → W'.heap[k]? = W.heap[k]?) (hB : Blk W' p t a) (hs : W'.os = W.os ∧ W'.tape = W.tape ∧ W'.output = W.output ∧ W.heap.size ≤ W'.heap.size) :
    Two w0 t z a b true db true sb (.pointer (some ⟨p, 0, none⟩)) vb W' := by
  obtain ⟨p', h1, h2, h3⟩ := h.2.1 rfl
  obtain rfl : p = p' := by simpa using h1
  refine ⟨⟨hs.1.trans h.1.os, hs.2.1.trans h.1.tape, hs.2.2.1.trans h.1.output, Nat.le_trans h.1.size hs.2.2.2, fun k hk => (hb k (by omega)).trans (h.1.block k hk)⟩, fun _ => ⟨p, rfl, h2, hB⟩, fun e => ?_, h.2.2.2⟩
  obtain ⟨q, k1, k2, k3⟩ := h.2.2.1 e
  have hne := h.2.2.2 rfl e
  subst k1
  exact ⟨q, rfl, k2, (hb q (fun e2 => hne (by rw [e2]))).trans k3⟩
theorem Two.store2 {p : Nat} (h : Two w0 t z a b da true sa false va (.pointer (some ⟨p, 0, none⟩)) W) (hb : ∀ k, k ≠ p → W'.heap[k]? = W.heap[k]?) (hB : Blk W' p t b) (hs : W'.os = W.os ∧ W'.tape = W.tape ∧ W'.output = W.output ∧ W.heap.size ≤ W'.heap.size) :
    Two w0 t z a b da true sa true va (.pointer (some ⟨p, 0, none⟩)) W' := (h.turn.store1 hb hB hs).turn
end
theorem heap_sets4 {w : World} {g k : Nat} (h : k ≠ g) (x0 x1 x2 x3 : Value) : ((((w.setCell ⟨g, 0, none⟩ x0).setCell ⟨g, 1, none⟩ x1).setCell ⟨g, 2, none⟩ x2).setCell ⟨g, 3, none⟩ x3).heap[k]? = w.heap[k]? := by
  rw [Below.heap_setCell _ _ _ _ h, Below.heap_setCell _ _ _ _ h, Below.heap_setCell _ _ _ _ h, Below.heap_setCell _ _ _ _ h]
theorem heap_sets5 {w : World} {g k : Nat} (h : k ≠ g) (x0 x1 x2 x3 x4 : Value) : (((((w.setCell ⟨g, 0, none⟩ x0).setCell ⟨g, 1, none⟩ x1).setCell ⟨g, 2, none⟩ x2).setCell ⟨g, 3, none⟩ x3).setCell ⟨g, 4, none⟩ x4).heap[k]? = w.heap[k]? := by
  rw [Below.heap_setCell _ _ _ _ h, heap_sets4 h]
theorem heap_sets3 {w : World} {g k : Nat} (h : k ≠ g) (x0 x1 x2 : Value) : (((w.setCell ⟨g, 0, none⟩ x0).setCell ⟨g, 1, none⟩ x1).setCell ⟨g, 2, none⟩ x2).heap[k]? = w.heap[k]? := by
  rw [Below.heap_setCell _ _ _ _ h, Below.heap_setCell _ _ _ _ h, Below.heap_setCell _ _ _ _ h]
theorem rest_sets4 (w : World) (p0 p1 p2 p3 : Addr) (x0 x1 x2 x3 : Value) : ((((w.setCell p0 x0).setCell p1 x1).setCell p2 x2).setCell p3 x3).os = w.os ∧ ((((w.setCell p0 x0).setCell p1 x1).setCell p2 x2).setCell p3 x3).tape = w.tape ∧ ((((w.setCell p0 x0).setCell p1 x1).setCell p2 x2).setCell p3 x3).output = w.output ∧ w.heap.size ≤ ((((w.setCell p0 x0).setCell p1 x1).setCell p2 x2).setCell p3 x3).heap.size :=
  ⟨rfl, rfl, rfl, by simp [World.setCell]⟩

end Go.Proofs.Ytbjopdnfjjcpoaa
