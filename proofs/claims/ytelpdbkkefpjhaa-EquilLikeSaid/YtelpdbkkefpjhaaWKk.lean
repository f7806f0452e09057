/-
Two results that are made side by side, each with memory of its own. Conditions: as each says.
-/
import Derived.Test.YtelpdbkkefpjhaaWKi
import Derived.Test.YtelpdbkkefpjhaaWKj
set_option linter.unusedVariables false
set_option linter.unusedSimpArgs false
set_option linter.unnecessarySimpa false
namespace Go.Proofs.Ytelpdbkkefpjhaa
open Go.RowKit
attribute [local go_sem ↓] Go.wp_at_zero Go.wp_at_succ

/-- Block g is of floats, and they meet S. -/
def OwnS (W : World) (S : Array Value → Prop) (g : Nat) : Prop := ∃ cs : Array Value, Blk W g 45 cs ∧ S cs
section
variable {W W' : World} {S S' : Array Value → Prop} {g : Nat}
theorem OwnS.nxt (h : OwnS W S g) (hb : Below W.heap.size W W') : OwnS W' S g := by
  obtain ⟨cs, h1, h2⟩ := h
  exact ⟨cs, h1.nxt hb, h2⟩
theorem OwnS.lt (h : OwnS W S g) : g < W.heap.size := by
  obtain ⟨cs, h1, h2⟩ := h
  exact h1.lt
theorem OwnS.ne_ {p : Nat} {t : TypeId} {cs : Array Value} (h : OwnS W S g) (hB : Blk W p t cs) (ht : t ≠ 45) : g ≠ p := by
  rintro rfl
  obtain ⟨cs', hB', _⟩ := h
  unfold Blk at hB hB'
  rw [hB] at hB'
  injection hB' with hB'
  injection hB' with _ e _
  exact ht e
theorem OwnS.far {p : Nat} (h : OwnS W S g) (hb : ∀ k, k ≠ p → W'.heap[k]? = W.heap[k]?) (hne : g ≠ p) : OwnS W' S g := by
  obtain ⟨cs', hB', h2⟩ := h
  exact ⟨cs', (hb g hne).trans hB', h2⟩
end
/-- Two results, each with a block of its own. -/
def Twn (Z : Nat) (S S' : Array Value → Prop) (f f' : Nat → Nat → Value) (d1 d3 : Bool) (va vb : Value) (W : World) : Prop :=
  d1 = true → ∃ g c, va = f g c ∧ OwnS W S g ∧ Z ≤ g ∧ (d3 = true → ∃ g' c', vb = f' g' c' ∧ OwnS W S' g' ∧ Z ≤ g' ∧ g ≠ g')
section
variable {Z : Nat} {S S' : Array Value → Prop} {f f' : Nat → Nat → Value} {d1 d3 : Bool} {va vb : Value} {W W' : World}
theorem Twn.nxt (h : Twn Z S S' f f' d1 d3 va vb W) (hb : Below W.heap.size W W') : Twn Z S S' f f' d1 d3 va vb W' := fun e => by
  obtain ⟨g, c, h1, h2, h3, h4⟩ := h e
  refine ⟨g, c, h1, h2.nxt hb, h3, fun e' => ?_⟩
  obtain ⟨g', c', k1, k2, k3, k4⟩ := h4 e'
  exact ⟨g', c', k1, k2.nxt hb, k3, k4⟩
theorem Twn.far {p : Nat} {t : TypeId} {cs : Array Value} (h : Twn Z S S' f f' d1 d3 va vb W) (hB : Blk W p t cs) (ht : t ≠ 45) (hb : ∀ k, k ≠ p → W'.heap[k]? = W.heap[k]?) : Twn Z S S' f f' d1 d3 va vb W' := fun e => by
  obtain ⟨g, c, h1, h2, h3, h4⟩ := h e
  refine ⟨g, c, h1, h2.far hb (h2.ne_ hB ht), h3, fun e' => ?_⟩
  obtain ⟨g', c', k1, k2, k3, k4⟩ := h4 e'
  exact ⟨g', c', k1, k2.far hb (k2.ne_ hB ht), k3, k4⟩
theorem Twn.first {g c : Nat} (ho : OwnS W S g) (hZ : Z ≤ g) (h3 : d3 = false) : Twn Z S S' f f' true d3 (f g c) vb W := fun _ => ⟨g, c, rfl, ho, hZ, fun e => by rw [h3] at e; cases e⟩
theorem Twn.second {g' c' : Nat} (h : Twn Z S S' f f' true false va vb W) (hb : Below W.heap.size W W') (ho : OwnS W' S' g') (hZ : Z ≤ g') (hg : W.heap.size ≤ g') : Twn Z S S' f f' true true va (f' g' c') W' := fun _ => by
  obtain ⟨g, c, h1, h2, h3, h4⟩ := h rfl
  exact ⟨g, c, h1, h2.nxt hb, h3, fun _ => ⟨g', c', rfl, ho, hZ, by have := h2.lt; omega⟩⟩
end
end Go.Proofs.Ytelpdbkkefpjhaa
/-
MoveRows: what is between its two calls; how the lists and the tables fit. Conditions: as each says.
-/
set_option linter.unusedVariables false
set_option linter.unusedSimpArgs false
set_option linter.unnecessarySimpa false
namespace Go.Proofs.Ytelpdbkkefpjhaa
open Go.RowKit

/-- Two lists of the call's own, the one changed or not yet, and the other. -/
def Both (W0 : World) (l : List Nat) (F1 F2 : List Nat → Prop) (g1 g2 : Nat) (d3 d6 : Bool) (W : World) : Prop :=
  ∃ la lb, Own W g1 la ∧ Own W g2 lb ∧ (if d3 = true then F1 la else la = l) ∧ (if d6 = true then F2 lb else lb = l) ∧ Chg [g1, g2] W0 W
section
variable {W0 W W' : World} {l : List Nat} {F1 F2 : List Nat → Prop} {g1 g2 : Nat} {d3 d6 : Bool}
theorem Both.start (h1 : Own W g1 l) (h2 : Own W g2 l) (hc : Chg [g1, g2] W0 W) : Both W0 l F1 F2 g1 g2 false false W := ⟨l, l, h1, h2, rfl, rfl, hc⟩
theorem Both.first (h : Both W0 l F1 F2 g1 g2 false d6 W) (hne : g1 ≠ g2) {l' : List Nat} (ho : Own W' g1 l') (hF : F1 l') (hc : Chg [g1] W W') : Both W0 l F1 F2 g1 g2 true d6 W' := by
  obtain ⟨la, lb, h1, h2, h3, h4, h5⟩ := h
  exact ⟨l', lb, ho, hc.own (by simp; exact fun e => hne e.symm) h2, hF, h4, h5.trans (hc.mono (by simp))⟩
theorem Both.second (h : Both W0 l F1 F2 g1 g2 d3 false W) (hne : g1 ≠ g2) {l' : List Nat} (ho : Own W' g2 l') (hF : F2 l') (hc : Chg [g2] W W') : Both W0 l F1 F2 g1 g2 d3 true W' := by
  obtain ⟨la, lb, h1, h2, h3, h4, h5⟩ := h
  exact ⟨la, l', hc.own (by simp; exact hne) h1, ho, h3, hF, h5.trans (hc.mono (by simp))⟩
theorem Both.one (h : Both W0 l F1 F2 g1 g2 false d6 W) : Own W g1 l := by
  obtain ⟨la, lb, h1, h2, h3, h4, h5⟩ := h
  have h3 : la = l := h3
  subst h3; exact h1
theorem Both.two (h : Both W0 l F1 F2 g1 g2 d3 false W) : Own W g2 l := by
  obtain ⟨la, lb, h1, h2, h3, h4, h5⟩ := h
  have h4 : lb = l := h4
  subst h4; exact h2
end
theorem tab_get {l T : List Nat} {o R C L N a b : Nat} (h : Tab l o R C L N T) (hN : R * C = N) (ha : a < R) (hb : b < C) : T.getD (a * C + b) 0 = l.getD (o + a + b * L) 0 :=
  h.2 a b ha hb (by rw [← hN]; exact tab_lt ha hb)
end Go.Proofs.Ytelpdbkkefpjhaa
