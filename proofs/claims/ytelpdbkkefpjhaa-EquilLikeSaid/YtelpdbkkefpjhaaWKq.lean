/-
The document's at, ends, Minus, Abs, Sign. Conditions: the places lie within 2^40.
-/
import Derived.Test.YtelpdbkkefpjhaaWKp
import Derived.BigQuiet
import Derived.Deep.QuietTactic
import Derived.Test.YtelpdbkkefpjhaaKIng
import Derived.Maps.AppendAt
import Derived.Test.YtelpdbkkefpjhaaKNumA
import Derived.Test.YtelpdbkkefpjhaaWKa
import Derived.Test.YtelpdbkkefpjhaaKFl
import Derived.Test.YtelpdbkkefpjhaaKFlB
set_option linter.unusedVariables false
set_option linter.unusedSimpArgs false
namespace Go.Proofs.Ytelpdbkkefpjhaa
open Go.RowKit
attribute [local go_sem ↓] Go.wp_at_zero Go.wp_at_succ

/-- Stores into a block that isn't one of ints don't touch the digits. -/
theorem Rd.far {w : World} {A : Option Addr} {n c : Nat} {L : List Nat} (h : Rd w A n c L) {g : Nat} {t : TypeId} {cs : Array Value} (hB : Blk w g t cs) (ht : t ≠ 3) (i : Nat) (u : Value) : Rd (w.setCell ⟨g, i, none⟩ u) A n c L := by
  refine ⟨h.1, h.2.1, ?_, h.2.2.2.1, fun b y e hl => (h.2.2.2.2 b y e hl).set_ _ _⟩
  cases L with
  | nil => exact .inl rfl
  | cons x L =>
    rcases h.2.2.1 with h0 | ⟨b, o, e, hc⟩
    · simp [ints] at h0
    · exact .inr ⟨b, o, e, fun j v hj => (cell_set ((h.2.2.2.2 b o e (by simp)).ne hB ht) u).trans (hc j v hj)⟩
theorem wrap64_in {z : Int} (h : z.natAbs ≤ 8796093022208) : wrap64 z = z := by unfold wrap64; omega
end Go.Proofs.Ytelpdbkkefpjhaa
/-
The document's numbers as values: what they hold, how many digits they have. Conditions: as each says.
-/
set_option linter.unusedVariables false
set_option linter.unusedSimpArgs false
namespace Go.Proofs.Ytelpdbkkefpjhaa
open Go.RowKit

/-- The value holds the number. -/
def DV (W : World) (v : Value) (d : Dyadic) : Prop :=
  ∃ (neg : Bool) (A : Option Addr) (n c : Nat) (E : Int) (l : List Nat), v = .agg #[.bool neg, .slice A n c, .int .i64 E] ∧ Rd W A n c l ∧ Neat neg l E ∧ rdy neg l E = d
theorem DV.below {W W' : World} {v : Value} {d : Dyadic} (h : DV W v d) (hb : Below W.heap.size W W') : DV W' v d := by
  obtain ⟨neg, A, n, c, E, l, h1, h2, h3, h4⟩ := h
  exact ⟨neg, A, n, c, E, l, h1, h2.below hb, h3, h4⟩
end Go.Proofs.Ytelpdbkkefpjhaa
/-
The document's sums, products, shifts, of values that hold numbers. Conditions: the numbers lie in few digits.
-/
set_option linter.unusedVariables false
set_option linter.unusedSimpArgs false
set_option linter.unnecessarySimpa false
namespace Go.Proofs.Ytelpdbkkefpjhaa
open Go.RowKit
attribute [local go_sem ↓] Go.wp_at_zero Go.wp_at_succ

/-- The box holds the number. -/
def Bx (W : World) (g : Nat) (d : Dyadic) : Prop := ∃ (neg : Bool) (A : Option Addr) (n c : Nat) (E : Int) (l : List Nat), Blk W g 69 #[.bool neg, .slice A n c, .int .i64 E] ∧ Rd W A n c l ∧ Neat neg l E ∧ rdy neg l E = d
theorem Bx.below {W W' : World} {g : Nat} {d : Dyadic} (h : Bx W g d) (hb : Below W.heap.size W W') : Bx W' g d := by
  obtain ⟨neg, A, n, c, E, l, h1, h2, h3, h4⟩ := h
  exact ⟨neg, A, n, c, E, l, h1.next hb, h2.below hb, h3, h4⟩
theorem DV.far {W : World} {v : Value} {d : Dyadic} (h : DV W v d) {g : Nat} {t : TypeId} {cs : Array Value} (hB : Blk W g t cs) (ht : t ≠ 3) (i : Nat) (u : Value) : DV (W.setCell ⟨g, i, none⟩ u) v d := by
  obtain ⟨neg, A, n, c, E, l, h1, h2, h3, h4⟩ := h
  exact ⟨neg, A, n, c, E, l, h1, h2.far hB ht i u, h3, h4⟩
theorem Bx.lt {W : World} {g : Nat} {d : Dyadic} (h : Bx W g d) : g < W.heap.size := by
  obtain ⟨neg, A, n, c, E, l, h1, h2, h3, h4⟩ := h
  exact h1.lt
end Go.Proofs.Ytelpdbkkefpjhaa
/-
A float's number.
-/
set_option linter.unusedVariables false
namespace Go.Proofs.Ytelpdbkkefpjhaa

/-- A float's number. -/
def fdy (b : Nat) : Dyadic := dy (Fl.val b) (-1074)
theorem mag_inf (K : Nat) (hK : K = 2098) : Fl.mag Fl.INF = 2 ^ K := by
  have e2 : 4503599627370496 + 9218868437227405312 % 4503599627370496 = 2 ^ 52 := by decide
  obtain ⟨k, hk⟩ : ∃ k, 9218868437227405312 / 4503599627370496 - 1 = k := ⟨_, rfl⟩
  unfold Fl.mag Fl.INF
  rw [if_neg (by omega), hk, e2, ← Nat.pow_add, show 52 + k = K by omega]
theorem mag_lt_big {r : Nat} (K : Nat) (hK : K = 2098) (h : r < Fl.INF) : Fl.mag r < 2 ^ K := by
  have h1 : Fl.mag r < Fl.mag Fl.INF := Fl.mag_lt h
  rw [mag_inf K hK] at h1
  exact h1
theorem val_lt_big {b : Nat} (K : Nat) (hK : K = 2098) (h : Fl.rung b < Fl.INF) : (Fl.val b).natAbs < 2 ^ K := by
  have := mag_lt_big K hK h
  unfold Fl.val
  generalize 2 ^ K = P at *
  split <;> omega
end Go.Proofs.Ytelpdbkkefpjhaa
