/-
Lists of floats: the document's Same and All, where all are the same. Conditions: the words are below 2^64.
-/
import Derived.Test.YtelpdbkkefpjhaaZFVwO
import Derived.Deep.RegionHeld3
import Derived.Deep.DrawnRows
import Derived.Deep.DeepCutAuto
import Derived.Deep.CutBlock
import Derived.Deep.OwnRows
import Derived.IntWalk
set_option linter.unusedVariables false
namespace Go.Proofs.Ytelpdbkkefpjhaa
open Go.RowKit
attribute [local go_sem ↓] Go.wp_at_zero Go.wp_at_succ

@[go_sem] theorem run_store_float (P : Program) (w : World) (a : Addr) (m : Mode) (k : FloatKind) (b : Nat) : (store a (.float k b) m).run P w = stored P w a (.float k b) m := run_store P w a _ m rfl

theorem sameB_refl (a : Nat) : sameB a a = true := by simp [sameB]

/-- Two lists of the same numbers. -/
def Alike (x y : List Nat) : Prop := x.length = y.length ∧ ∀ (i : Nat) (h : i < x.length) (h' : i < y.length), sameB x[i] y[i] = true
theorem Alike.refl (x : List Nat) : Alike x x := ⟨rfl, fun i _ _ => sameB_refl _⟩

end Go.Proofs.Ytelpdbkkefpjhaa
