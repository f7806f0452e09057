/-
MoveVectors, the beginning: the two copies. Conditions: as each says.
-/
import Derived.Test.YtbeefnekblepfaaUaal
import Derived.Test.YtbeefnekblepfaaZMwC
set_option linter.unusedVariables false
set_option linter.unusedSimpArgs false
set_option linter.unnecessarySimpa false
namespace Go.Proofs.Ytbeefnekblepfaa
open Go.RowKit
attribute [local go_sem ↓] Go.wp_at_zero Go.wp_at_succ

/-- Two results that have lists of their own. -/
def Twin (Z : Nat) (l l' : List Nat) (f f' : Nat → Nat → Value) (d1 d3 : Bool) (va vb : Value) (W : World) : Prop :=
  d1 = true → ∃ g c, va = f g c ∧ Own W g l ∧ Z ≤ g ∧ (d3 = true → ∃ g' c', vb = f' g' c' ∧ Own W g' l' ∧ Z ≤ g' ∧ g ≠ g')
section
variable {Z : Nat} {l l' : List Nat} {f f' : Nat → Nat → Value} {d1 d3 : Bool} {va vb : Value} {W W' : World}
theorem Twin.nxt (h : Twin Z l l' f f' d1 d3 va vb W) (hb : Below W.heap.size W W') : Twin Z l l' f f' d1 d3 va vb W' := fun e => by
  obtain ⟨g, c, h1, h2, h3, h4⟩ := h e
  refine ⟨g, c, h1, h2.nxt hb, h3, fun e' => ?_⟩
  obtain ⟨g', c', k1, k2, k3, k4⟩ := h4 e'
  exact ⟨g', c', k1, k2.nxt hb, k3, k4⟩
theorem own_ne {g p : Nat} {t : TypeId} {cs : Array Value} (h : Own W g l) (hB : Blk W p t cs) (ht : t ≠ 23) : g ≠ p := by
  rintro rfl
  obtain ⟨cs', hB', _⟩ := h
  unfold Blk at hB hB'
  rw [hB] at hB'
  injection hB' with hB'
  injection hB' with _ e _
  exact ht e
theorem own_far {g p : Nat} (h : Own W g l) (hb : ∀ k, k ≠ p → W'.heap[k]? = W.heap[k]?) (hne : g ≠ p) : Own W' g l := by
  obtain ⟨cs', hB', h2⟩ := h
  exact ⟨cs', (hb g hne).trans hB', h2⟩
theorem Twin.far {p : Nat} {t : TypeId} {cs : Array Value} (h : Twin Z l l' f f' d1 d3 va vb W) (hB : Blk W p t cs) (ht : t ≠ 23) (hb : ∀ k, k ≠ p → W'.heap[k]? = W.heap[k]?) : Twin Z l l' f f' d1 d3 va vb W' := fun e => by
  obtain ⟨g, c, h1, h2, h3, h4⟩ := h e
  refine ⟨g, c, h1, own_far h2 hb (own_ne h2 hB ht), h3, fun e' => ?_⟩
  obtain ⟨g', c', k1, k2, k3, k4⟩ := h4 e'
  exact ⟨g', c', k1, own_far k2 hb (own_ne k2 hB ht), k3, k4⟩
theorem Twin.first {g c : Nat} (ho : Own W g l) (hZ : Z ≤ g) (h3 : d3 = false) : Twin Z l l' f f' true d3 (f g c) vb W := fun _ => ⟨g, c, rfl, ho, hZ, fun e => by rw [h3] at e; cases e⟩
theorem Twin.second {g' c' : Nat} (h : Twin Z l l' f f' true false va vb W) (hb : Below W.heap.size W W') (ho : Own W' g' l') (hZ : Z ≤ g') (hg : W.heap.size ≤ g') : Twin Z l l' f f' true true va (f' g' c') W' := fun _ => by
  obtain ⟨g, c, h1, h2, h3, h4⟩ := h rfl
  exact ⟨g, c, h1, h2.nxt hb, h3, fun _ => ⟨g', c', rfl, ho, hZ, by have := h2.lt; omega⟩⟩
end
/-- The cells of a struct. -/
def cellsV : Value → Array Value
  | .agg cs => cs
  | _ => #[]
theorem Two.chg1 {w0 W : World} {t : TypeId} {z a a' b : Array Value} {da db sb : Bool} {va vb : Value} (h : Two w0 t z a b da db false sb va vb W) : Two w0 t z a' b da db false sb va vb W := h
theorem Two.chg2 {w0 W : World} {t : TypeId} {z a b b' : Array Value} {da db sa : Bool} {va vb : Value} (h : Two w0 t z a b da db sa false va vb W) : Two w0 t z a b' da db sa false va vb W := h

/-- The arguments' boxes, the copies' boxes, and the copies' lists. -/
def Begun (w : World) (l l' : List Nat) (n c : Nat) (off k inc : Int) (n' c' : Nat) (off' k' inc' : Int) (A A' : Option Addr) (p q : Nat) (W : World) : Prop :=
  ∃ g1 c1 g2 c2, Blk W w.heap.size 76 #[.slice A n c, .int .i64 off, .int .i64 k, .int .i64 inc] ∧ Blk W (w.heap.size + 1) 76 #[.slice A' n' c', .int .i64 off', .int .i64 k', .int .i64 inc'] ∧
    Blk W p 76 #[.slice (some ⟨g1, 0, none⟩) n c1, .int .i64 off, .int .i64 k, .int .i64 inc] ∧ Blk W q 76 #[.slice (some ⟨g2, 0, none⟩) n' c2, .int .i64 off', .int .i64 k', .int .i64 inc'] ∧
    Own W g1 l ∧ Own W g2 l' ∧ g1 ≠ g2 ∧ w.heap.size + 1 < g1 ∧ w.heap.size + 1 < g2 ∧ w.heap.size + 1 < p ∧ w.heap.size + 1 < q ∧ p ≠ q ∧ Below w.heap.size w W

end Go.Proofs.Ytbeefnekblepfaa
/-
Two results that are made side by side, each with memory of its own. Conditions: as each says.
-/
set_option linter.unusedVariables false
set_option linter.unusedSimpArgs false
set_option linter.unnecessarySimpa false
namespace Go.Proofs.Ytbeefnekblepfaa
open Go.RowKit
attribute [local go_sem ↓] Go.wp_at_zero Go.wp_at_succ

/-- Block g is of floats, and they meet S. -/
def OwnS (W : World) (S : Array Value → Prop) (g : Nat) : Prop := ∃ cs : Array Value, Blk W g 23 cs ∧ S cs
section
variable {W W' : World} {S S' : Array Value → Prop} {g : Nat}
theorem OwnS.nxt (h : OwnS W S g) (hb : Below W.heap.size W W') : OwnS W' S g := by
  obtain ⟨cs, h1, h2⟩ := h
  exact ⟨cs, h1.nxt hb, h2⟩
theorem OwnS.lt (h : OwnS W S g) : g < W.heap.size := by
  obtain ⟨cs, h1, h2⟩ := h
  exact h1.lt
theorem OwnS.ne_ {p : Nat} {t : TypeId} {cs : Array Value} (h : OwnS W S g) (hB : Blk W p t cs) (ht : t ≠ 23) : g ≠ p := by
  rintro rfl
  obtain ⟨cs', hB', _⟩ := h
  unfold Blk at hB hB'
  rw [hB] at hB'
  injection hB' with hB'
  injection hB' with _ e _
  exact ht e
theorem OwnS.far {p : Nat} (h : OwnS W S g) (hb : ∀ k, k ≠ p → W'.heap[k]? = W.heap[k]?) (hne : g ≠ p) : OwnS W' S g := by
  obtain ⟨cs', hB', h2⟩ := h
  exact ⟨cs', (hb g hne).trans hB', h2⟩
end
/-- Two results, each with a block of its own. -/
def Twn (Z : Nat) (S S' : Array Value → Prop) (f f' : Nat → Nat → Value) (d1 d3 : Bool) (va vb : Value) (W : World) : Prop :=
  d1 = true → ∃ g c, va = f g c ∧ OwnS W S g ∧ Z ≤ g ∧ (d3 = true → ∃ g' c', vb = f' g' c' ∧ OwnS W S' g' ∧ Z ≤ g' ∧ g ≠ g')
section
variable {Z : Nat} {S S' : Array Value → Prop} {f f' : Nat → Nat → Value} {d1 d3 : Bool} {va vb : Value} {W W' : World}
theorem Twn.nxt (h : Twn Z S S' f f' d1 d3 va vb W) (hb : Below W.heap.size W W') : Twn Z S S' f f' d1 d3 va vb W' := fun e => by
  obtain ⟨g, c, h1, h2, h3, h4⟩ := h e
  refine ⟨g, c, h1, h2.nxt hb, h3, fun e' => ?_⟩
  obtain ⟨g', c', k1, k2, k3, k4⟩ := h4 e'
  exact ⟨g', c', k1, k2.nxt hb, k3, k4⟩
theorem Twn.far {p : Nat} {t : TypeId} {cs : Array Value} (h : Twn Z S S' f f' d1 d3 va vb W) (hB : Blk W p t cs) (ht : t ≠ 23) (hb : ∀ k, k ≠ p → W'.heap[k]? = W.heap[k]?) : Twn Z S S' f f' d1 d3 va vb W' := fun e => by
  obtain ⟨g, c, h1, h2, h3, h4⟩ := h e
  refine ⟨g, c, h1, h2.far hb (h2.ne_ hB ht), h3, fun e' => ?_⟩
  obtain ⟨g', c', k1, k2, k3, k4⟩ := h4 e'
  exact ⟨g', c', k1, k2.far hb (k2.ne_ hB ht), k3, k4⟩
theorem Twn.first {g c : Nat} (ho : OwnS W S g) (hZ : Z ≤ g) (h3 : d3 = false) : Twn Z S S' f f' true d3 (f g c) vb W := fun _ => ⟨g, c, rfl, ho, hZ, fun e => by rw [h3] at e; cases e⟩
theorem Twn.second {g' c' : Nat} (h : Twn Z S S' f f' true false va vb W) (hb : Below W.heap.size W W') (ho : OwnS W' S' g') (hZ : Z ≤ g') (hg : W.heap.size ≤ g') : Twn Z S S' f f' true true va (f' g' c') W' := fun _ => by
  obtain ⟨g, c, h1, h2, h3, h4⟩ := h rfl
  exact ⟨g, c, h1, h2.nxt hb, h3, fun _ => ⟨g', c', rfl, ho, hZ, by have := h2.lt; omega⟩⟩
end
theorem rest_sets1 (w : World) (p : Addr) (x : Value) : (w.setCell p x).os = w.os ∧ (w.setCell p x).tape = w.tape ∧ (w.setCell p x).output = w.output ∧ w.heap.size ≤ (w.setCell p x).heap.size :=
  ⟨rfl, rfl, rfl, by simp [World.setCell]⟩
theorem rest_then {a b c : World} (h : b.os = a.os ∧ b.tape = a.tape ∧ b.output = a.output ∧ a.heap.size ≤ b.heap.size) (k : c.os = b.os ∧ c.tape = b.tape ∧ c.output = b.output ∧ b.heap.size ≤ c.heap.size) : c.os = a.os ∧ c.tape = a.tape ∧ c.output = a.output ∧ a.heap.size ≤ c.heap.size :=
  ⟨k.1.trans h.1, k.2.1.trans h.2.1, k.2.2.1.trans h.2.2.1, Nat.le_trans h.2.2.2 k.2.2.2⟩
theorem rest_sets5 (w : World) (p0 p1 p2 p3 p4 : Addr) (x0 x1 x2 x3 x4 : Value) : (((((w.setCell p0 x0).setCell p1 x1).setCell p2 x2).setCell p3 x3).setCell p4 x4).os = w.os ∧ (((((w.setCell p0 x0).setCell p1 x1).setCell p2 x2).setCell p3 x3).setCell p4 x4).tape = w.tape ∧ (((((w.setCell p0 x0).setCell p1 x1).setCell p2 x2).setCell p3 x3).setCell p4 x4).output = w.output ∧ w.heap.size ≤ (((((w.setCell p0 x0).setCell p1 x1).setCell p2 x2).setCell p3 x3).setCell p4 x4).heap.size :=
  rest_then (rest_sets4 w p0 p1 p2 p3 x0 x1 x2 x3) (rest_sets1 _ p4 x4)
theorem rest_sets3 (w : World) (p0 p1 p2 : Addr) (x0 x1 x2 : Value) : (((w.setCell p0 x0).setCell p1 x1).setCell p2 x2).os = w.os ∧ (((w.setCell p0 x0).setCell p1 x1).setCell p2 x2).tape = w.tape ∧ (((w.setCell p0 x0).setCell p1 x1).setCell p2 x2).output = w.output ∧ w.heap.size ≤ (((w.setCell p0 x0).setCell p1 x1).setCell p2 x2).heap.size :=
  ⟨rfl, rfl, rfl, by simp [World.setCell]⟩
theorem frozen5w {w : World} {b : Nat} {t : TypeId} {v0 v1 v2 v3 v4 : Value} (h : Blk w b t #[v0, v1, v2, v3, v4]) : w.frozen? ⟨b, 0, none⟩ = false ∧ w.frozen? ⟨b, 1, none⟩ = false ∧ w.frozen? ⟨b, 2, none⟩ = false ∧ w.frozen? ⟨b, 3, none⟩ = false ∧ w.frozen? ⟨b, 4, none⟩ = false := ⟨h.frozen 0, h.frozen 1, h.frozen 2, h.frozen 3, h.frozen 4⟩

end Go.Proofs.Ytbeefnekblepfaa
/-
MoveRows: what is between its two calls; how the lists and the tables fit. Conditions: as each says.
-/
set_option linter.unusedVariables false
set_option linter.unusedSimpArgs false
set_option linter.unnecessarySimpa false
namespace Go.Proofs.Ytbeefnekblepfaa
open Go.RowKit

theorem held13 {w W w' : World} {b0 o0 b1 o1 b2 o2 b3 o3 b4 o4 b5 o5 b6 o6 b7 o7 b8 o8 b9 o9 b10 o10 b11 o11 b12 o12 : Nat} {v0 v1 v2 v3 v4 v5 v6 v7 v8 v9 v10 v11 v12 : Value} (h : W.cell? ⟨b0, o0, none⟩ = some v0 ∧ W.cell? ⟨b1, o1, none⟩ = some v1 ∧ W.cell? ⟨b2, o2, none⟩ = some v2 ∧ W.cell? ⟨b3, o3, none⟩ = some v3 ∧ W.cell? ⟨b4, o4, none⟩ = some v4 ∧ W.cell? ⟨b5, o5, none⟩ = some v5 ∧ W.cell? ⟨b6, o6, none⟩ = some v6 ∧ W.cell? ⟨b7, o7, none⟩ = some v7 ∧ W.cell? ⟨b8, o8, none⟩ = some v8 ∧ W.cell? ⟨b9, o9, none⟩ = some v9 ∧ W.cell? ⟨b10, o10, none⟩ = some v10 ∧ W.cell? ⟨b11, o11, none⟩ = some v11 ∧ W.cell? ⟨b12, o12, none⟩ = some v12 ∧ Below w.heap.size w W) (hb : Below W.heap.size W w') :
    w'.cell? ⟨b0, o0, none⟩ = some v0 ∧ w'.cell? ⟨b1, o1, none⟩ = some v1 ∧ w'.cell? ⟨b2, o2, none⟩ = some v2 ∧ w'.cell? ⟨b3, o3, none⟩ = some v3 ∧ w'.cell? ⟨b4, o4, none⟩ = some v4 ∧ w'.cell? ⟨b5, o5, none⟩ = some v5 ∧ w'.cell? ⟨b6, o6, none⟩ = some v6 ∧ w'.cell? ⟨b7, o7, none⟩ = some v7 ∧ w'.cell? ⟨b8, o8, none⟩ = some v8 ∧ w'.cell? ⟨b9, o9, none⟩ = some v9 ∧ w'.cell? ⟨b10, o10, none⟩ = some v10 ∧ w'.cell? ⟨b11, o11, none⟩ = some v11 ∧ w'.cell? ⟨b12, o12, none⟩ = some v12 ∧ Below w.heap.size w w' :=
  ⟨cell_below h.1 hb, cell_below h.2.1 hb, cell_below h.2.2.1 hb, cell_below h.2.2.2.1 hb, cell_below h.2.2.2.2.1 hb, cell_below h.2.2.2.2.2.1 hb, cell_below h.2.2.2.2.2.2.1 hb, cell_below h.2.2.2.2.2.2.2.1 hb, cell_below h.2.2.2.2.2.2.2.2.1 hb, cell_below h.2.2.2.2.2.2.2.2.2.1 hb, cell_below h.2.2.2.2.2.2.2.2.2.2.1 hb, cell_below h.2.2.2.2.2.2.2.2.2.2.2.1 hb, cell_below h.2.2.2.2.2.2.2.2.2.2.2.2.1 hb, h.2.2.2.2.2.2.2.2.2.2.2.2.2.trans (hb.mono h.2.2.2.2.2.2.2.2.2.2.2.2.2.size)⟩
theorem blk_ne {W : World} {p g : Nat} {t t' : TypeId} {cs cs' : Array Value} (h : Blk W p t cs) (h' : Blk W g t' cs') (ht : t ≠ t') : p ≠ g := by
  rintro rfl
  unfold Blk at h h'
  rw [h] at h'
  injection h' with h'
  injection h' with _ e _
  exact ht e
/-- Two lists of the call's own, the one changed or not yet, and the other. -/
def Both (W0 : World) (l : List Nat) (F1 F2 : List Nat → Prop) (g1 g2 : Nat) (d3 d6 : Bool) (W : World) : Prop :=
  ∃ la lb, Own W g1 la ∧ Own W g2 lb ∧ (if d3 = true then F1 la else la = l) ∧ (if d6 = true then F2 lb else lb = l) ∧ Chg [g1, g2] W0 W
section
variable {W0 W W' : World} {l : List Nat} {F1 F2 : List Nat → Prop} {g1 g2 : Nat} {d3 d6 : Bool}
theorem Both.start (h1 : Own W g1 l) (h2 : Own W g2 l) (hc : Chg [g1, g2] W0 W) : Both W0 l F1 F2 g1 g2 false false W := ⟨l, l, h1, h2, rfl, rfl, hc⟩
theorem Both.first (h : Both W0 l F1 F2 g1 g2 false d6 W) (hne : g1 ≠ g2) {l' : List Nat} (ho : Own W' g1 l') (hF : F1 l') (hc : Chg [g1] W W') : Both W0 l F1 F2 g1 g2 true d6 W' := by
  obtain ⟨la, lb, h1, h2, h3, h4, h5⟩ := h
  exact ⟨l', lb, ho, hc.own (by simp; exact fun e => hne e.symm) h2, hF, h4, h5.trans (hc.mono (by simp))⟩
theorem Both.second (h : Both W0 l F1 F2 g1 g2 d3 false W) (hne : g1 ≠ g2) {l' : List Nat} (ho : Own W' g2 l') (hF : F2 l') (hc : Chg [g2] W W') : Both W0 l F1 F2 g1 g2 d3 true W' := by
  obtain ⟨la, lb, h1, h2, h3, h4, h5⟩ := h
  exact ⟨la, l', hc.own (by simp; exact hne) h1, ho, h3, hF, h5.trans (hc.mono (by simp))⟩
theorem Both.one (h : Both W0 l F1 F2 g1 g2 false d6 W) : Own W g1 l := by
  obtain ⟨la, lb, h1, h2, h3, h4, h5⟩ := h
  have h3 : la = l := h3
  subst h3; exact h1
theorem Both.two (h : Both W0 l F1 F2 g1 g2 d3 false W) : Own W g2 l := by
  obtain ⟨la, lb, h1, h2, h3, h4, h5⟩ := h
  have h4 : lb = l := h4
  subst h4; exact h2
theorem Both.chg (h : Both W0 l F1 F2 g1 g2 d3 d6 W) : Chg [g1, g2] W0 W := by
  obtain ⟨la, lb, h1, h2, h3, h4, h5⟩ := h
  exact h5
end
/-- A list of the caller's is as it was. -/
theorem chg_row {w W0 W : World} {G : List Nat} {B : Option Addr} {xs : List Value} (h : Row w B xs) (hb : Below w.heap.size w W0) (hc : Chg G W0 W) (hG : ∀ g ∈ G, w.heap.size ≤ g) : Row W B xs := by
  rcases h with rfl | ⟨b, o, rfl, h1⟩
  · exact .inl rfl
  · cases xs with
    | nil => exact .inl rfl
    | cons x xs =>
      have hlt := block_lt (h1 0 x rfl)
      refine hc.row (fun b' o' e => ?_) ((show Row w (some ⟨b, o, none⟩) (x :: xs) from .inr ⟨b, o, rfl, h1⟩).below hb)
      injection e with e; injection e with e _
      subst e
      intro hg
      have := hG _ hg
      omega

theorem tab_get {l T : List Nat} {o R C L N a b : Nat} (h : Tab l o R C L N T) (hN : R * C = N) (ha : a < R) (hb : b < C) : T.getD (a * C + b) 0 = l.getD (o + a + b * L) 0 :=
  h.2 a b ha hb (by rw [← hN]; exact tab_lt ha hb)
/-- The table as it was: the list as it was. -/
theorem fit_same {l T l' : List Nat} {o R C L N : Nat} (h : Tab l o R C L N T) (hN : R * C = N) (hi : Img l o R C L (fun a b => T.getD (a * C + b) 0) l') : l = l' :=
  (Img.refl l o R C L).uniq hi fun a ha b hb => (tab_get h hN ha hb).symm
theorem fit_half {l T T' m l' : List Nat} {o R C L N i j : Nat} (h : Tab l o R C L N T) (hN : R * C = N) (hi : i < R) (hj : j < R) (hh : Half T i j R C C T') (hm : Img l o R C L (fun a b => l.getD (o + sw i j a + b * L) 0) m)
    (hl : Img l o R C L (fun a b => T'.getD (a * C + b) 0) l') : m = l' :=
  hm.uniq hl fun a ha b hb => by rw [hh.2 a ha b hb, if_pos hb, tab_get h hN (sw_lt hi hj ha) hb]
theorem fit_prm {l T T' m l' : List Nat} {o R C L N q : Nat} {zs : List Int} (h : Tab l o R C L N T) (hN : R * C = N) (hz : OrdOk R zs q) (hq : q ≤ zs.length) (hh : Prm T zs R C q T') (hm : Img l o R C L (fun a b => l.getD (o + prm zs q a + b * L) 0) m)
    (hl : Img l o R C L (fun a b => T'.getD (a * C + b) 0) l') : m = l' :=
  hm.uniq hl fun a ha b hb => by rw [hh.2 a ha b hb, tab_get h hN (prm_lt hz hq ha) hb]
theorem wds_img {l l' : List Nat} {o R C L : Nat} {f : Nat → Nat} (h : Wds l) (hi : Img l o R C L (fun a b => l.getD (o + f a + b * L) 0) l') : Wds l' := by
  have hw : ∀ k, l.getD k 0 < 18446744073709551616 := fun k => by
    rcases Nat.lt_or_ge k l.length with h1 | h1
    · rw [getD_of_lt h1]; exact h.at_ k h1
    · rw [getD_of_le h1]; omega
  intro x hx
  obtain ⟨k, hk, rfl⟩ := List.mem_iff_getElem.1 hx
  rw [← getD_of_lt hk]
  by_cases hp : ∃ a, a < R ∧ ∃ b, b < C ∧ k = o + a + b * L
  · obtain ⟨a, ha, b, hb, rfl⟩ := hp
    rw [hi.2.1 a ha b hb]; exact hw _
  · rw [hi.2.2 k (fun a ha b hb e => hp ⟨a, ha, b, hb, e⟩)]; exact hw _
end Go.Proofs.Ytbeefnekblepfaa
