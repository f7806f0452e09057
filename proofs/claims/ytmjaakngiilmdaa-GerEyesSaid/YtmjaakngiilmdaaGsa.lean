/-
MoveVectors, the beginning: the two copies. Conditions: as each says.
-/
import Derived.Test.YtmjaakngiilmdaaZMvN
import Derived.Test.YtmjaakngiilmdaaGr
set_option linter.unusedVariables false
set_option linter.unusedSimpArgs false
set_option linter.unnecessarySimpa false
namespace Go.Proofs.Ytmjaakngiilmdaa
open Go.RowKit
attribute [local go_sem ↓] Go.wp_at_zero Go.wp_at_succ

/-- Two results that have lists of their own. -/
def Twin (Z : Nat) (l l' : List Nat) (f f' : Nat → Nat → Value) (d1 d3 : Bool) (va vb : Value) (W : World) : Prop :=
  d1 = true → ∃ g c, va = f g c ∧ Own W g l ∧ Z ≤ g ∧ (d3 = true → ∃ g' c', vb = f' g' c' ∧ Own W g' l' ∧ Z ≤ g' ∧ g ≠ g')
section
variable {Z : Nat} {l l' : List Nat} {f f' : Nat → Nat → Value} {d1 d3 : Bool} {va vb : Value} {W W' : World}
theorem Twin.nxt (h : Twin Z l l' f f' d1 d3 va vb W) (hb : Below W.heap.size W W') : Twin Z l l' f f' d1 d3 va vb W' := fun e => by
  obtain ⟨g, c, h1, h2, h3, h4⟩ := h e
  refine ⟨g, c, h1, h2.nxt hb, h3, fun e' => ?_⟩
  obtain ⟨g', c', k1, k2, k3, k4⟩ := h4 e'
  exact ⟨g', c', k1, k2.nxt hb, k3, k4⟩
theorem own_ne {g p : Nat} {t : TypeId} {cs : Array Value} (h : Own W g l) (hB : Blk W p t cs) (ht : t ≠ 28) : g ≠ p := by
  rintro rfl
  obtain ⟨cs', hB', _⟩ := h
  unfold Blk at hB hB'
  rw [hB] at hB'
  injection hB' with hB'
  injection hB' with _ e _
  exact ht e
theorem own_far {g p : Nat} (h : Own W g l) (hb : ∀ k, k ≠ p → W'.heap[k]? = W.heap[k]?) (hne : g ≠ p) : Own W' g l := by
  obtain ⟨cs', hB', h2⟩ := h
  exact ⟨cs', (hb g hne).trans hB', h2⟩
theorem Twin.far {p : Nat} {t : TypeId} {cs : Array Value} (h : Twin Z l l' f f' d1 d3 va vb W) (hB : Blk W p t cs) (ht : t ≠ 28) (hb : ∀ k, k ≠ p → W'.heap[k]? = W.heap[k]?) : Twin Z l l' f f' d1 d3 va vb W' := fun e => by
  obtain ⟨g, c, h1, h2, h3, h4⟩ := h e
  refine ⟨g, c, h1, own_far h2 hb (own_ne h2 hB ht), h3, fun e' => ?_⟩
  obtain ⟨g', c', k1, k2, k3, k4⟩ := h4 e'
  exact ⟨g', c', k1, own_far k2 hb (own_ne k2 hB ht), k3, k4⟩
theorem Twin.first {g c : Nat} (ho : Own W g l) (hZ : Z ≤ g) (h3 : d3 = false) : Twin Z l l' f f' true d3 (f g c) vb W := fun _ => ⟨g, c, rfl, ho, hZ, fun e => by rw [h3] at e; cases e⟩
theorem Twin.second {g' c' : Nat} (h : Twin Z l l' f f' true false va vb W) (hb : Below W.heap.size W W') (ho : Own W' g' l') (hZ : Z ≤ g') (hg : W.heap.size ≤ g') : Twin Z l l' f f' true true va (f' g' c') W' := fun _ => by
  obtain ⟨g, c, h1, h2, h3, h4⟩ := h rfl
  exact ⟨g, c, h1, h2.nxt hb, h3, fun _ => ⟨g', c', rfl, ho, hZ, by have := h2.lt; omega⟩⟩
end
/-- The cells of a struct. -/
def cellsV : Value → Array Value
  | .agg cs => cs
  | _ => #[]
theorem Two.chg1 {w0 W : World} {t : TypeId} {z a a' b : Array Value} {da db sb : Bool} {va vb : Value} (h : Two w0 t z a b da db false sb va vb W) : Two w0 t z a' b da db false sb va vb W := h
theorem Two.chg2 {w0 W : World} {t : TypeId} {z a b b' : Array Value} {da db sa : Bool} {va vb : Value} (h : Two w0 t z a b da db sa false va vb W) : Two w0 t z a b' da db sa false va vb W := h

/-- The arguments' boxes, the copies' boxes, and the copies' lists. -/
def Begun (w : World) (l l' : List Nat) (n c : Nat) (off k inc : Int) (n' c' : Nat) (off' k' inc' : Int) (A A' : Option Addr) (p q : Nat) (W : World) : Prop :=
  ∃ g1 c1 g2 c2, Blk W w.heap.size 32 #[.slice A n c, .int .i64 off, .int .i64 k, .int .i64 inc] ∧ Blk W (w.heap.size + 1) 32 #[.slice A' n' c', .int .i64 off', .int .i64 k', .int .i64 inc'] ∧
    Blk W p 32 #[.slice (some ⟨g1, 0, none⟩) n c1, .int .i64 off, .int .i64 k, .int .i64 inc] ∧ Blk W q 32 #[.slice (some ⟨g2, 0, none⟩) n' c2, .int .i64 off', .int .i64 k', .int .i64 inc'] ∧
    Own W g1 l ∧ Own W g2 l' ∧ g1 ≠ g2 ∧ w.heap.size + 1 < g1 ∧ w.heap.size + 1 < g2 ∧ w.heap.size + 1 < p ∧ w.heap.size + 1 < q ∧ p ≠ q ∧ Below w.heap.size w W

end Go.Proofs.Ytmjaakngiilmdaa
/-
Two results that are made side by side, each with memory of its own. Conditions: as each says.
-/
set_option linter.unusedVariables false
set_option linter.unusedSimpArgs false
set_option linter.unnecessarySimpa false
namespace Go.Proofs.Ytmjaakngiilmdaa
open Go.RowKit
attribute [local go_sem ↓] Go.wp_at_zero Go.wp_at_succ

/-- Block g is of floats, and they meet S. -/
def OwnS (W : World) (S : Array Value → Prop) (g : Nat) : Prop := ∃ cs : Array Value, Blk W g 28 cs ∧ S cs
section
variable {W W' : World} {S S' : Array Value → Prop} {g : Nat}
theorem OwnS.nxt (h : OwnS W S g) (hb : Below W.heap.size W W') : OwnS W' S g := by
  obtain ⟨cs, h1, h2⟩ := h
  exact ⟨cs, h1.nxt hb, h2⟩
theorem OwnS.lt (h : OwnS W S g) : g < W.heap.size := by
  obtain ⟨cs, h1, h2⟩ := h
  exact h1.lt
theorem OwnS.ne_ {p : Nat} {t : TypeId} {cs : Array Value} (h : OwnS W S g) (hB : Blk W p t cs) (ht : t ≠ 28) : g ≠ p := by
  rintro rfl
  obtain ⟨cs', hB', _⟩ := h
  unfold Blk at hB hB'
  rw [hB] at hB'
  injection hB' with hB'
  injection hB' with _ e _
  exact ht e
theorem OwnS.far {p : Nat} (h : OwnS W S g) (hb : ∀ k, k ≠ p → W'.heap[k]? = W.heap[k]?) (hne : g ≠ p) : OwnS W' S g := by
  obtain ⟨cs', hB', h2⟩ := h
  exact ⟨cs', (hb g hne).trans hB', h2⟩
end
/-- Two results, each with a block of its own. -/
def Twn (Z : Nat) (S S' : Array Value → Prop) (f f' : Nat → Nat → Value) (d1 d3 : Bool) (va vb : Value) (W : World) : Prop :=
  d1 = true → ∃ g c, va = f g c ∧ OwnS W S g ∧ Z ≤ g ∧ (d3 = true → ∃ g' c', vb = f' g' c' ∧ OwnS W S' g' ∧ Z ≤ g' ∧ g ≠ g')
section
variable {Z : Nat} {S S' : Array Value → Prop} {f f' : Nat → Nat → Value} {d1 d3 : Bool} {va vb : Value} {W W' : World}
theorem Twn.nxt (h : Twn Z S S' f f' d1 d3 va vb W) (hb : Below W.heap.size W W') : Twn Z S S' f f' d1 d3 va vb W' := fun e => by
  obtain ⟨g, c, h1, h2, h3, h4⟩ := h e
  refine ⟨g, c, h1, h2.nxt hb, h3, fun e' => ?_⟩
  obtain ⟨g', c', k1, k2, k3, k4⟩ := h4 e'
  exact ⟨g', c', k1, k2.nxt hb, k3, k4⟩
theorem Twn.far {p : Nat} {t : TypeId} {cs : Array Value} (h : Twn Z S S' f f' d1 d3 va vb W) (hB : Blk W p t cs) (ht : t ≠ 28) (hb : ∀ k, k ≠ p → W'.heap[k]? = W.heap[k]?) : Twn Z S S' f f' d1 d3 va vb W' := fun e => by
  obtain ⟨g, c, h1, h2, h3, h4⟩ := h e
  refine ⟨g, c, h1, h2.far hb (h2.ne_ hB ht), h3, fun e' => ?_⟩
  obtain ⟨g', c', k1, k2, k3, k4⟩ := h4 e'
  exact ⟨g', c', k1, k2.far hb (k2.ne_ hB ht), k3, k4⟩
theorem Twn.first {g c : Nat} (ho : OwnS W S g) (hZ : Z ≤ g) (h3 : d3 = false) : Twn Z S S' f f' true d3 (f g c) vb W := fun _ => ⟨g, c, rfl, ho, hZ, fun e => by rw [h3] at e; cases e⟩
theorem Twn.second {g' c' : Nat} (h : Twn Z S S' f f' true false va vb W) (hb : Below W.heap.size W W') (ho : OwnS W' S' g') (hZ : Z ≤ g') (hg : W.heap.size ≤ g') : Twn Z S S' f f' true true va (f' g' c') W' := fun _ => by
  obtain ⟨g, c, h1, h2, h3, h4⟩ := h rfl
  exact ⟨g, c, h1, h2.nxt hb, h3, fun _ => ⟨g', c', rfl, ho, hZ, by have := h2.lt; omega⟩⟩
end
theorem rest_sets1 (w : World) (p : Addr) (x : Value) : (w.setCell p x).os = w.os ∧ (w.setCell p x).tape = w.tape ∧ (w.setCell p x).output = w.output ∧ w.heap.size ≤ (w.setCell p x).heap.size :=
  ⟨rfl, rfl, rfl, by simp [World.setCell]⟩
theorem rest_then {a b c : World} (h : b.os = a.os ∧ b.tape = a.tape ∧ b.output = a.output ∧ a.heap.size ≤ b.heap.size) (k : c.os = b.os ∧ c.tape = b.tape ∧ c.output = b.output ∧ b.heap.size ≤ c.heap.size) : c.os = a.os ∧ c.tape = a.tape ∧ c.output = a.output ∧ a.heap.size ≤ c.heap.size :=
  ⟨k.1.trans h.1, k.2.1.trans h.2.1, k.2.2.1.trans h.2.2.1, Nat.le_trans h.2.2.2 k.2.2.2⟩
theorem rest_sets5 (w : World) (p0 p1 p2 p3 p4 : Addr) (x0 x1 x2 x3 x4 : Value) : (((((w.setCell p0 x0).setCell p1 x1).setCell p2 x2).setCell p3 x3).setCell p4 x4).os = w.os ∧ (((((w.setCell p0 x0).setCell p1 x1).setCell p2 x2).setCell p3 x3).setCell p4 x4).tape = w.tape ∧ (((((w.setCell p0 x0).setCell p1 x1).setCell p2 x2).setCell p3 x3).setCell p4 x4).output = w.output ∧ w.heap.size ≤ (((((w.setCell p0 x0).setCell p1 x1).setCell p2 x2).setCell p3 x3).setCell p4 x4).heap.size :=
  rest_then (rest_sets4 w p0 p1 p2 p3 x0 x1 x2 x3) (rest_sets1 _ p4 x4)
theorem rest_sets3 (w : World) (p0 p1 p2 : Addr) (x0 x1 x2 : Value) : (((w.setCell p0 x0).setCell p1 x1).setCell p2 x2).os = w.os ∧ (((w.setCell p0 x0).setCell p1 x1).setCell p2 x2).tape = w.tape ∧ (((w.setCell p0 x0).setCell p1 x1).setCell p2 x2).output = w.output ∧ w.heap.size ≤ (((w.setCell p0 x0).setCell p1 x1).setCell p2 x2).heap.size :=
  ⟨rfl, rfl, rfl, by simp [World.setCell]⟩
theorem frozen5w {w : World} {b : Nat} {t : TypeId} {v0 v1 v2 v3 v4 : Value} (h : Blk w b t #[v0, v1, v2, v3, v4]) : w.frozen? ⟨b, 0, none⟩ = false ∧ w.frozen? ⟨b, 1, none⟩ = false ∧ w.frozen? ⟨b, 2, none⟩ = false ∧ w.frozen? ⟨b, 3, none⟩ = false ∧ w.frozen? ⟨b, 4, none⟩ = false := ⟨h.frozen 0, h.frozen 1, h.frozen 2, h.frozen 3, h.frozen 4⟩

end Go.Proofs.Ytmjaakngiilmdaa
