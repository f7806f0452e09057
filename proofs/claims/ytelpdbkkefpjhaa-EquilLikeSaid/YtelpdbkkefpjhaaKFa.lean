/-
Sums, differences, products, quotients of floats, as a walk has them: one word up to which NaN it is. Conditions: none.
-/
import Derived.Test.YtelpdbkkefpjhaaKNumA
import Derived.Laws.FloatArith
import Derived.Deep.Draws
set_option linter.unusedVariables false
namespace Go.Proofs.Ytelpdbkkefpjhaa
open Go.RowKit

/-- r is the number z: the same word, or both are NaN. -/
def Is (r z : Nat) : Prop := r < 18446744073709551616 ∧ (r = z ∨ (Fl.nan r = true ∧ Fl.nan z = true))
theorem Is.lt {r z : Nat} (h : Is r z) : r < 18446744073709551616 := h.1
theorem Is.refl {r : Nat} (h : r < 18446744073709551616) : Is r r := ⟨h, .inl rfl⟩
theorem Is.same {r s z : Nat} (h : Is r z) (k : Is s z) : sameB r s = true := by
  unfold sameB
  rcases h with ⟨_, rfl | ⟨h1, h2⟩⟩ <;> rcases k with ⟨_, rfl | ⟨k1, k2⟩⟩ <;> simp_all
theorem Is.nan {r z : Nat} (h : Is r z) : Fl.nan r = Fl.nan z := by
  rcases h with ⟨_, rfl | ⟨h1, h2⟩⟩
  · rfl
  · rw [h1, h2]
theorem Is.trans {r s z : Nat} (h : Is r s) (k : Is s z) : Is r z := by
  refine ⟨h.1, ?_⟩
  rcases h with ⟨_, rfl | ⟨h1, h2⟩⟩
  · exact k.2
  · exact .inr ⟨h1, by rw [← k.nan]; exact h2⟩
/-- Is it a sum, a difference, a product, a quotient? -/
def isAr : BinOp → Bool | .add => true | .sub => true | .mul => true | .quo => true | _ => false
/-! ### As the walk has them. -/
/-- The NaN that the tape gives. -/
def tapeNan (w : World) (x y : Nat) : Nat := Question.cut (.nanBits .f64 x y) (w.tape w.drawn (.nanBits .f64 x y))
/-- What the operation gives in a world. -/
def fres (op : BinOp) (w : World) (x y : Nat) : Nat := (floatBits op .f64 x y).getD (tapeNan w x y)
/-- How often it asks the tape. -/
def fdrw (op : BinOp) (x y : Nat) : Nat := if (floatBits op .f64 x y).isSome then 0 else 1
theorem run_far (P : Program) (op : BinOp) (hop : isAr op = true) (t : TypeId) (x y : Nat) (w : World) : (binOp op t (.float .f64 x) (.float .f64 y)).run P w = .ok (.float .f64 (fres op w x y)) (w.drewN (fdrw op x y)) := by
  unfold fres fdrw
  cases h : floatBits op .f64 x y with
  | some r => exact run_float_arith w op t .f64 x y r h
  | none =>
    unfold floatBits at h
    cases op <;> simp only [isAr] at hop <;> first | (cases hop; done) | skip
    all_goals
      simp only at h
      simp only [binOp, Op.floatArith, h, tapeNan]
      rfl
theorem run_fadd (P : Program) (t : TypeId) (x y : Nat) (w : World) : (binOp .add t (.float .f64 x) (.float .f64 y)).run P w = .ok (.float .f64 (fres .add w x y)) (w.drewN (fdrw .add x y)) := run_far P .add rfl t x y w
theorem run_fsub (P : Program) (t : TypeId) (x y : Nat) (w : World) : (binOp .sub t (.float .f64 x) (.float .f64 y)).run P w = .ok (.float .f64 (fres .sub w x y)) (w.drewN (fdrw .sub x y)) := run_far P .sub rfl t x y w
theorem run_fmul (P : Program) (t : TypeId) (x y : Nat) (w : World) : (binOp .mul t (.float .f64 x) (.float .f64 y)).run P w = .ok (.float .f64 (fres .mul w x y)) (w.drewN (fdrw .mul x y)) := run_far P .mul rfl t x y w
theorem run_fquo (P : Program) (t : TypeId) (x y : Nat) (w : World) : (binOp .quo t (.float .f64 x) (.float .f64 y)).run P w = .ok (.float .f64 (fres .quo w x y)) (w.drewN (fdrw .quo x y)) := run_far P .quo rfl t x y w
attribute [go_sem] run_fadd run_fsub run_fmul run_fquo
end Go.Proofs.Ytelpdbkkefpjhaa
