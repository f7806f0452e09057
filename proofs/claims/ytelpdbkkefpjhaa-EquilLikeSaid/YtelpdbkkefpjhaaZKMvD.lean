/-
Copy: numbers that are copied. Conditions: the vectors' lists are the call's own, or the caller's.
-/
import Derived.Test.YtelpdbkkefpjhaaZKSt
set_option linter.unusedVariables false
namespace Go.Proofs.Ytelpdbkkefpjhaa
open Go.RowKit
attribute [local go_sem ↓] Go.wp_at_zero Go.wp_at_succ

/-- Between: nothing has changed, or the one list has. -/
def Mid (G : List Nat) (wr : World) (s s' : Nat → List Nat) (w' : World) : Prop := Chg G wr w' ∧ (Has w' G s ∨ Has w' G s')
theorem cell_self {W : World} {g P : Nat} {x u : Value} (hc : W.cell? ⟨g, P, none⟩ = some x) : (W.setCell ⟨g, P, none⟩ u).cell? ⟨g, P, none⟩ = some u := World.cell?_setCell_same' W _ u (by rw [hc]; rfl)
section
variable {G : List Nat} {wr W w' : World} {s : Nat → List Nat} {g P v : Nat}
theorem Mid.start {s' : Nat → List Nat} (h : Has w' G s) (hc : Chg G wr w') : Mid G wr s s' w' := ⟨hc, .inl h⟩
theorem Mid.nxt {s' : Nat → List Nat} (h : Mid G wr s s' W) (hb : Below W.heap.size W w') : Mid G wr s s' w' := ⟨h.1.nxt hb, h.2.imp (fun k => k.nxt hb) (fun k => k.nxt hb)⟩
theorem Mid.there (h : Mid G wr s (upd s g ((s g).set P v)) W) (hg : g ∈ G) (hP : P < (s g).length) : ∃ u, W.cell? ⟨g, P, none⟩ = some (.float .f64 u) ∧ W.frozen? ⟨g, P, none⟩ = false := by
  rcases h.2 with h | h
  · exact ⟨_, h.get hg hP, (h g hg).frozen P⟩
  · refine ⟨_, h.get hg ?_, (h g hg).frozen P⟩
    rw [upd_self, List.length_set]; exact hP
theorem Mid.store (h : Mid G wr s (upd s g ((s g).set P v)) W) (hg : g ∈ G) (hP : P < (s g).length) : Has (W.setCell ⟨g, P, none⟩ (.float .f64 v)) G (upd s g ((s g).set P v)) ∧ Chg G wr (W.setCell ⟨g, P, none⟩ (.float .f64 v)) := by
  refine ⟨?_, h.1.set_in hg _⟩
  rcases h.2 with h | h
  · exact h.set_ hg v hP
  · have := h.set_ hg v (i := P) (by rw [upd_self, List.length_set]; exact hP)
    simpa [upd_self, upd_upd] using this
theorem Mid.stored (h : Mid G wr s (upd s g ((s g).set P v)) W) (hg : g ∈ G) (hP : P < (s g).length) : Mid G wr s (upd s g ((s g).set P v)) (W.setCell ⟨g, P, none⟩ (.float .f64 v)) := ⟨(h.store hg hP).2, .inr (h.store hg hP).1⟩
theorem Mid.done {x : Value} (h : Mid G wr s (upd s g ((s g).set P v)) (W.setCell ⟨g, P, none⟩ (.float .f64 v))) (hg : g ∈ G) (hP : P < (s g).length) (hc : W.cell? ⟨g, P, none⟩ = some x) : Has (W.setCell ⟨g, P, none⟩ (.float .f64 v)) G (upd s g ((s g).set P v)) ∧ Chg G wr (W.setCell ⟨g, P, none⟩ (.float .f64 v)) := by
  refine ⟨?_, h.1⟩
  rcases h.2 with k | k
  · have h1 := k.get hg hP
    rw [cell_self hc] at h1
    have h2 : v = (s g).getD P 0 := by simpa using h1
    have h3 : (s g).set P v = s g := by
      rw [h2, getD_of_lt hP]; exact List.set_getElem_self hP
    rw [h3, upd_same]; exact k
  · exact k
end
end Go.Proofs.Ytelpdbkkefpjhaa
