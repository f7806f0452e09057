/-
Gemv: column by column. Conditions: as each says.
-/
import Derived.Test.YtcdhpoikppfjkaaZYGvB
set_option linter.unusedVariables false
set_option linter.unusedSimpArgs false
set_option linter.unnecessarySimpa false
namespace Go.Proofs.Ytcdhpoikppfjkaa
open Go.RowKit
attribute [local go_sem ↓] Go.wp_at_zero Go.wp_at_succ

/-- Step by step. -/
def Chn (S : Nat → Nat → Nat → Prop) (y : Nat) : Nat → Nat → Prop
  | 0, r => r = y
  | k + 1, r => ∃ s, Chn S y k s ∧ S k s r
/-- What a column does to a number. -/
def ColS (Pr : Nat → Nat → Nat → Prop) (lm : List Nat) (om L : Nat) (lx : List Nat) (ox ix q k s r : Nat) : Prop := ∃ p, Pr (lm.getD (om + k * L + q) 0) (lx.getD (ox + k * ix) 0) p ∧ Comes .add s p r
/-- The numbers of a matrix, of a vector, lie where they lay. -/
def MCells (W : World) (g : Nat) (l : List Nat) (o R C L : Nat) : Prop := ∀ a, a < R → ∀ b, b < C → W.cell? ⟨g, o + b * L + a, none⟩ = some (.float .f64 (l.getD (o + b * L + a) 0))
def VCells (W : World) (g : Nat) (l : List Nat) (o K i : Nat) : Prop := ∀ q, q < K → W.cell? ⟨g, o + q * i, none⟩ = some (.float .f64 (l.getD (o + q * i) 0))
theorem MCells.nxt {W W' : World} {g : Nat} {l : List Nat} {o R C L : Nat} (h : MCells W g l o R C L) (hb : Below W.heap.size W W') : MCells W' g l o R C L := fun a ha b hb' => cell_below (h a ha b hb') hb
theorem VCells.nxt {W W' : World} {g : Nat} {l : List Nat} {o K i : Nat} (h : VCells W g l o K i) (hb : Below W.heap.size W W') : VCells W' g l o K i := fun q hq => cell_below (h q hq) hb
theorem MCells.set_ {W : World} {g g' p : Nat} {l : List Nat} {o R C L : Nat} (h : MCells W g l o R C L) (hd : g = g' → ∀ a, a < R → ∀ b, b < C → o + b * L + a ≠ p) (u : Value) : MCells (W.setCell ⟨g', p, none⟩ u) g l o R C L := fun a ha b hb' => by
  refine (World.cell?_setCell_other W _ _ _ ?_).trans (h a ha b hb')
  intro e
  injection e with e1 e2
  exact hd e1.symm a ha b hb' e2.symm
theorem VCells.set_ {W : World} {g g' p : Nat} {l : List Nat} {o K i : Nat} (h : VCells W g l o K i) (hd : g = g' → ∀ q, q < K → o + q * i ≠ p) (u : Value) : VCells (W.setCell ⟨g', p, none⟩ u) g l o K i := fun q hq => by
  refine (World.cell?_setCell_other W _ _ _ ?_).trans (h q hq)
  intro e
  injection e with e1 e2
  exact hd e1.symm q hq e2.symm
theorem mat_lt {n o R C L a b : Nat} (hr : R = 0 ∨ C = 0 ∨ o + (C - 1) * L + (R - 1) < n) (ha : a < R) (hb : b < C) : o + b * L + a < n := by
  have : b * L ≤ (C - 1) * L := Nat.mul_le_mul_right L (by omega)
  omega
theorem vcells_own {w : World} {g n : Nat} {l : List Nat} {o K i : Nat} (h : Own w g l) (hl : l.length = n) (hr : K = 0 ∨ o + (K - 1) * i < n) : VCells w g l o K i := fun q hq => by
  have h1 : o + q * i < l.length := by
    rw [hl]
    rcases hr with h0 | h0
    · omega
    · exact place_lt h0 hq
  rw [getD_of_lt h1]
  exact h.get _ h1
theorem wrt_lst (l : List Nat) (o i K : Nat) (hi : 1 ≤ i) (hr : K = 0 ∨ o + (K - 1) * i < l.length) : wrt l o i (lst l o i K) K = l := by
  refine ext_getD (by rw [wrt_length]) fun j hj => ?_
  by_cases h : ∃ q, q < K ∧ j = o + q * i
  · obtain ⟨q, hq, rfl⟩ := h
    rw [wrt_at l o i _ K hi hr hq, lst_getD l o i hq]
  · exact wrt_else l o i _ K fun q hq e => h ⟨q, hq, e⟩
theorem wrt_wrt (l : List Nat) (o i : Nat) (m m' : List Nat) (K : Nat) (hi : 1 ≤ i) (hr : K = 0 ∨ o + (K - 1) * i < l.length) : wrt (wrt l o i m K) o i m' K = wrt l o i m' K := by
  refine ext_getD (by rw [wrt_length, wrt_length, wrt_length]) fun j hj => ?_
  by_cases h : ∃ q, q < K ∧ j = o + q * i
  · obtain ⟨q, hq, rfl⟩ := h
    rw [wrt_at _ o i _ K hi (by rw [wrt_length]; exact hr) hq, wrt_at _ o i _ K hi hr hq]
  · rw [wrt_else _ o i _ K fun q hq e => h ⟨q, hq, e⟩, wrt_else _ o i _ K fun q hq e => h ⟨q, hq, e⟩, wrt_else _ o i _ K fun q hq e => h ⟨q, hq, e⟩]
/-- A box of a vector, of a number, in the making. -/
def BoxV (W : World) (v : Value) (z : Nat) (b : Bool) (c0 c1 c2 c3 : Value) : Prop := ∃ p x0 x1 x2 x3, v = .pointer (some ⟨p, 0, none⟩) ∧ Blk W p 66 #[x0, x1, x2, x3] ∧ z ≤ p ∧ (b = true → x0 = c0 ∧ x1 = c1 ∧ x2 = c2 ∧ x3 = c3)
def BoxF (W : World) (v : Value) (z : Nat) (b : Bool) (u : Value) : Prop := ∃ p x, v = .pointer (some ⟨p, 0, none⟩) ∧ Blk W p 43 #[x] ∧ z ≤ p ∧ (b = true → x = u)
theorem BoxV.below {W W' : World} {v : Value} {z : Nat} {b : Bool} {c0 c1 c2 c3 : Value} (h : BoxV W v z b c0 c1 c2 c3) (hb : Below W.heap.size W W') : BoxV W' v z b c0 c1 c2 c3 := by
  obtain ⟨p, x0, x1, x2, x3, h1, h2, h3, h4⟩ := h
  exact ⟨p, x0, x1, x2, x3, h1, h2.nxt hb, h3, h4⟩
theorem BoxF.below {W W' : World} {v : Value} {z : Nat} {b : Bool} {u : Value} (h : BoxF W v z b u) (hb : Below W.heap.size W W') : BoxF W' v z b u := by
  obtain ⟨p, x, h1, h2, h3, h4⟩ := h
  exact ⟨p, x, h1, h2.nxt hb, h3, h4⟩
theorem BoxV.far {W : World} {v : Value} {z : Nat} {b : Bool} {c0 c1 c2 c3 : Value} {p : Nat} {cs : Array Value} (h : BoxV W v z b c0 c1 c2 c3) (hB : Blk W p 43 cs) (k : Nat) (u : Value) : BoxV (W.setCell ⟨p, k, none⟩ u) v z b c0 c1 c2 c3 := by
  obtain ⟨q, x0, x1, x2, x3, h1, h2, h3, h4⟩ := h
  exact ⟨q, x0, x1, x2, x3, h1, h2.other (blk_ne h2 hB (by decide)) _, h3, h4⟩
theorem BoxF.far {W : World} {v : Value} {z : Nat} {b : Bool} {u : Value} {p : Nat} {x0 x1 x2 x3 : Value} (h : BoxF W v z b u) (hB : Blk W p 66 #[x0, x1, x2, x3]) (u0 u1 u2 u3 : Value) : BoxF ((((W.setCell ⟨p, 0, none⟩ u0).setCell ⟨p, 1, none⟩ u1).setCell ⟨p, 2, none⟩ u2).setCell ⟨p, 3, none⟩ u3) v z b u := by
  obtain ⟨q, x, h1, h2, h3, h4⟩ := h
  have hne := blk_ne h2 hB (by decide)
  exact ⟨q, x, h1, (((h2.other hne _).other hne _).other hne _).other hne _, h3, h4⟩

end Go.Proofs.Ytcdhpoikppfjkaa
