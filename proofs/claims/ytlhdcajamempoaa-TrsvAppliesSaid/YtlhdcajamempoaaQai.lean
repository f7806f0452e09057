/-
The document's Take of a table. Conditions: the table has at most 2^20 numbers.
-/
import Derived.Test.YtlhdcajamempoaaQah
import Derived.Test.YtlhdcajamempoaaZMvN
import Derived.Test.YtlhdcajamempoaaZMvO
set_option linter.unusedVariables false
namespace Go.Proofs.Ytlhdcajamempoaa
open Go.RowKit
attribute [local go_sem ↓] Go.wp_at_zero Go.wp_at_succ

/-- The table's rows stand as the first q changes of the order have it. -/
def Prm (T : List Nat) (zs : List Int) (R C q : Nat) (T' : List Nat) : Prop := T'.length = T.length ∧ ∀ a, a < R → ∀ b, b < C → T'.getD (a * C + b) 0 = T.getD (prm zs q a * C + b) 0
theorem Prm.step {T T' T2 : List Nat} {zs : List Int} {R C q j : Nat} (h : Prm T zs R C q T') (h2 : Half T' q j R C C T2) (hq : q < R) (hj : j < R) (e : ∀ a, prm zs (q + 1) a = prm zs q (sw q j a)) : Prm T zs R C (q + 1) T2 :=
  ⟨h2.1.trans h.1, fun a ha b hb => by
    rw [h2.2 a ha b hb, if_pos hb, h.2 _ (sw_lt hq hj ha) b hb, e]⟩

theorem heldG4 {W w' : World} {G : List Nat} {b0 o0 b1 o1 b2 o2 b3 o3 : Nat} {v0 v1 v2 v3 : Value} {R : World → Prop} (h : W.cell? ⟨b0, o0, none⟩ = some v0 ∧ W.cell? ⟨b1, o1, none⟩ = some v1 ∧ W.cell? ⟨b2, o2, none⟩ = some v2 ∧ W.cell? ⟨b3, o3, none⟩ = some v3 ∧ R W) (hc : Chg G W w') (n0 : b0 ∉ G) (n1 : b1 ∉ G) (n2 : b2 ∉ G) (n3 : b3 ∉ G) (hR : R W → R w') :
    w'.cell? ⟨b0, o0, none⟩ = some v0 ∧ w'.cell? ⟨b1, o1, none⟩ = some v1 ∧ w'.cell? ⟨b2, o2, none⟩ = some v2 ∧ w'.cell? ⟨b3, o3, none⟩ = some v3 ∧ R w' :=
  ⟨hc.cell n0 h.1, hc.cell n1 h.2.1, hc.cell n2 h.2.2.1, hc.cell n3 h.2.2.2.1, hR h.2.2.2.2⟩
end Go.Proofs.Ytlhdcajamempoaa
/-
The document's Into: a list with a table at a matrix' places. Conditions: the matrix is right, its list and the table have at most 2^20 numbers.
-/
set_option linter.unusedVariables false
set_option linter.unusedSimpArgs false
namespace Go.Proofs.Ytlhdcajamempoaa
open Go.RowKit
attribute [local go_sem ↓] Go.wp_at_zero Go.wp_at_succ

/-- The list has the table T at the matrix' first places, by rows, and is else as it was. -/
def Pim (l : List Nat) (o R C L : Nat) (T : Nat → Nat → Nat) (a b : Nat) (l' : List Nat) : Prop :=
  l'.length = l.length ∧ (∀ i, i < R → ∀ j, j < C → l'.getD (o + i + j * L) 0 = if i < a ∨ (i = a ∧ j < b) then T i j else l.getD (o + i + j * L) 0) ∧ ∀ x, (∀ i, i < R → ∀ j, j < C → x ≠ o + i + j * L) → l'.getD x 0 = l.getD x 0
theorem Pim.zero (l : List Nat) (o R C L : Nat) (T : Nat → Nat → Nat) : Pim l o R C L T 0 0 l := ⟨rfl, fun i _ j _ => by rw [if_neg (by omega)], fun _ _ => rfl⟩
theorem Pim.next {l l' : List Nat} {o R C L : Nat} {T : Nat → Nat → Nat} {a : Nat} (h : Pim l o R C L T a C l') : Pim l o R C L T (a + 1) 0 l' :=
  ⟨h.1, fun i hi j hj => by
    rw [h.2.1 i hi j hj]
    by_cases e : i < a ∨ (i = a ∧ j < C)
    · rw [if_pos e, if_pos (by omega)]
    · rw [if_neg e, if_neg (by omega)], h.2.2⟩
theorem Pim.done {l l' : List Nat} {o R C L : Nat} {T : Nat → Nat → Nat} (h : Pim l o R C L T R 0 l') : Img l o R C L T l' :=
  ⟨h.1, fun i hi j hj => by rw [h.2.1 i hi j hj, if_pos (.inl hi)], h.2.2⟩
theorem Pim.step {l l' : List Nat} {o R C L : Nat} {T : Nat → Nat → Nat} {a b : Nat} (h : Pim l o R C L T a b l') (hR : R ≤ L) (ha : a < R) (hb : b < C) (hP : o + a + b * L < l.length) : Pim l o R C L T a (b + 1) (l'.set (o + a + b * L) (T a b)) := by
  refine ⟨by rw [List.length_set]; exact h.1, fun i hi j hj => ?_, fun x hx => ?_⟩
  · by_cases e : i = a ∧ j = b
    · obtain ⟨rfl, rfl⟩ := e
      rw [getD_set_self (by rw [h.1]; exact hP), if_pos (by omega)]
    · rw [getD_set_ne _ (fun e2 => e (by
        have := spots_inj (L := L) (a := a) (b := b) (a' := i) (b' := j) (by omega) (by omega) (by omega)
        exact ⟨this.1.symm, this.2.symm⟩)), h.2.1 i hi j hj]
      by_cases e1 : i < a ∨ (i = a ∧ j < b)
      · rw [if_pos e1, if_pos (by omega)]
      · rw [if_neg e1, if_neg (by omega)]
  · rw [getD_set_ne _ (fun e => hx a ha b hb e.symm), h.2.2 x hx]
/-- What Into comes to. -/
def Intod (n : Nat) (l : List Nat) (o R C L : Nat) (T : List Nat) (w : World) (e : Ending) (w' : World) : Prop := ∃ g c' l', e = .returned (.slice (some ⟨g, 0, none⟩) n c') ∧ Own w' g l' ∧ Img l o R C L (fun a b => T.getD (a * C + b) 0) l' ∧ w.heap.size ≤ g ∧ Below w.heap.size w w'
end Go.Proofs.Ytlhdcajamempoaa
/-
Two results that are made side by side, each with memory of its own. Conditions: as each says.
-/
set_option linter.unusedVariables false
set_option linter.unusedSimpArgs false
set_option linter.unnecessarySimpa false
namespace Go.Proofs.Ytlhdcajamempoaa
open Go.RowKit
attribute [local go_sem ↓] Go.wp_at_zero Go.wp_at_succ

/-- Block g is of floats, and they meet S. -/
def OwnS (W : World) (S : Array Value → Prop) (g : Nat) : Prop := ∃ cs : Array Value, Blk W g 28 cs ∧ S cs
section
variable {W W' : World} {S S' : Array Value → Prop} {g : Nat}
theorem OwnS.nxt (h : OwnS W S g) (hb : Below W.heap.size W W') : OwnS W' S g := by
  obtain ⟨cs, h1, h2⟩ := h
  exact ⟨cs, h1.nxt hb, h2⟩
theorem OwnS.lt (h : OwnS W S g) : g < W.heap.size := by
  obtain ⟨cs, h1, h2⟩ := h
  exact h1.lt
theorem OwnS.ne_ {p : Nat} {t : TypeId} {cs : Array Value} (h : OwnS W S g) (hB : Blk W p t cs) (ht : t ≠ 28) : g ≠ p := by
  rintro rfl
  obtain ⟨cs', hB', _⟩ := h
  unfold Blk at hB hB'
  rw [hB] at hB'
  injection hB' with hB'
  injection hB' with _ e _
  exact ht e
theorem OwnS.far {p : Nat} (h : OwnS W S g) (hb : ∀ k, k ≠ p → W'.heap[k]? = W.heap[k]?) (hne : g ≠ p) : OwnS W' S g := by
  obtain ⟨cs', hB', h2⟩ := h
  exact ⟨cs', (hb g hne).trans hB', h2⟩
end
/-- Two results, each with a block of its own. -/
def Twn (Z : Nat) (S S' : Array Value → Prop) (f f' : Nat → Nat → Value) (d1 d3 : Bool) (va vb : Value) (W : World) : Prop :=
  d1 = true → ∃ g c, va = f g c ∧ OwnS W S g ∧ Z ≤ g ∧ (d3 = true → ∃ g' c', vb = f' g' c' ∧ OwnS W S' g' ∧ Z ≤ g' ∧ g ≠ g')
section
variable {Z : Nat} {S S' : Array Value → Prop} {f f' : Nat → Nat → Value} {d1 d3 : Bool} {va vb : Value} {W W' : World}
theorem Twn.nxt (h : Twn Z S S' f f' d1 d3 va vb W) (hb : Below W.heap.size W W') : Twn Z S S' f f' d1 d3 va vb W' := fun e => by
  obtain ⟨g, c, h1, h2, h3, h4⟩ := h e
  refine ⟨g, c, h1, h2.nxt hb, h3, fun e' => ?_⟩
  obtain ⟨g', c', k1, k2, k3, k4⟩ := h4 e'
  exact ⟨g', c', k1, k2.nxt hb, k3, k4⟩
theorem Twn.far {p : Nat} {t : TypeId} {cs : Array Value} (h : Twn Z S S' f f' d1 d3 va vb W) (hB : Blk W p t cs) (ht : t ≠ 28) (hb : ∀ k, k ≠ p → W'.heap[k]? = W.heap[k]?) : Twn Z S S' f f' d1 d3 va vb W' := fun e => by
  obtain ⟨g, c, h1, h2, h3, h4⟩ := h e
  refine ⟨g, c, h1, h2.far hb (h2.ne_ hB ht), h3, fun e' => ?_⟩
  obtain ⟨g', c', k1, k2, k3, k4⟩ := h4 e'
  exact ⟨g', c', k1, k2.far hb (k2.ne_ hB ht), k3, k4⟩
theorem Twn.first {g c : Nat} (ho : OwnS W S g) (hZ : Z ≤ g) (h3 : d3 = false) : Twn Z S S' f f' true d3 (f g c) vb W := fun _ => ⟨g, c, rfl, ho, hZ, fun e => by rw [h3] at e; cases e⟩
theorem Twn.second {g' c' : Nat} (h : Twn Z S S' f f' true false va vb W) (hb : Below W.heap.size W W') (ho : OwnS W' S' g') (hZ : Z ≤ g') (hg : W.heap.size ≤ g') : Twn Z S S' f f' true true va (f' g' c') W' := fun _ => by
  obtain ⟨g, c, h1, h2, h3, h4⟩ := h rfl
  exact ⟨g, c, h1, h2.nxt hb, h3, fun _ => ⟨g', c', rfl, ho, hZ, by have := h2.lt; omega⟩⟩
end
theorem rest_sets1 (w : World) (p : Addr) (x : Value) : (w.setCell p x).os = w.os ∧ (w.setCell p x).tape = w.tape ∧ (w.setCell p x).output = w.output ∧ w.heap.size ≤ (w.setCell p x).heap.size :=
  ⟨rfl, rfl, rfl, by simp [World.setCell]⟩
theorem rest_then {a b c : World} (h : b.os = a.os ∧ b.tape = a.tape ∧ b.output = a.output ∧ a.heap.size ≤ b.heap.size) (k : c.os = b.os ∧ c.tape = b.tape ∧ c.output = b.output ∧ b.heap.size ≤ c.heap.size) : c.os = a.os ∧ c.tape = a.tape ∧ c.output = a.output ∧ a.heap.size ≤ c.heap.size :=
  ⟨k.1.trans h.1, k.2.1.trans h.2.1, k.2.2.1.trans h.2.2.1, Nat.le_trans h.2.2.2 k.2.2.2⟩
theorem rest_sets5 (w : World) (p0 p1 p2 p3 p4 : Addr) (x0 x1 x2 x3 x4 : Value) : (((((w.setCell p0 x0).setCell p1 x1).setCell p2 x2).setCell p3 x3).setCell p4 x4).os = w.os ∧ (((((w.setCell p0 x0).setCell p1 x1).setCell p2 x2).setCell p3 x3).setCell p4 x4).tape = w.tape ∧ (((((w.setCell p0 x0).setCell p1 x1).setCell p2 x2).setCell p3 x3).setCell p4 x4).output = w.output ∧ w.heap.size ≤ (((((w.setCell p0 x0).setCell p1 x1).setCell p2 x2).setCell p3 x3).setCell p4 x4).heap.size :=
  rest_then (rest_sets4 w p0 p1 p2 p3 x0 x1 x2 x3) (rest_sets1 _ p4 x4)
theorem rest_sets3 (w : World) (p0 p1 p2 : Addr) (x0 x1 x2 : Value) : (((w.setCell p0 x0).setCell p1 x1).setCell p2 x2).os = w.os ∧ (((w.setCell p0 x0).setCell p1 x1).setCell p2 x2).tape = w.tape ∧ (((w.setCell p0 x0).setCell p1 x1).setCell p2 x2).output = w.output ∧ w.heap.size ≤ (((w.setCell p0 x0).setCell p1 x1).setCell p2 x2).heap.size :=
  ⟨rfl, rfl, rfl, by simp [World.setCell]⟩
theorem frozen5w {w : World} {b : Nat} {t : TypeId} {v0 v1 v2 v3 v4 : Value} (h : Blk w b t #[v0, v1, v2, v3, v4]) : w.frozen? ⟨b, 0, none⟩ = false ∧ w.frozen? ⟨b, 1, none⟩ = false ∧ w.frozen? ⟨b, 2, none⟩ = false ∧ w.frozen? ⟨b, 3, none⟩ = false ∧ w.frozen? ⟨b, 4, none⟩ = false := ⟨h.frozen 0, h.frozen 1, h.frozen 2, h.frozen 3, h.frozen 4⟩

end Go.Proofs.Ytlhdcajamempoaa
