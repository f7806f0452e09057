/-
A region that draws its order, some of whose operations are guarded, by what holds whichever of its operations have come up. Conditions: each operation waits for earlier ones alone.
-/
import Derived.Test.YtelpdbkkefpjhaaKInv
set_option linter.unusedVariables false
namespace Go.Proofs.Ytelpdbkkefpjhaa
open Go.RowKit

/-- The Bool of a guard. -/
def yieldS (ops : Array Oper) (s : Nat → Value) (j : Nat) : Option Bool :=
  match (ops[j]?).bind (·.dst) with
  | some k => (match s k with | .bool b => some b | _ => none)
  | none => none
/-- One operation: it is carried out, or passed by. -/
def StepG (P : Program) (ops : Array Oper) (o : Oper) (s : Nat → Value) (w : World) (K : Value → World → Prop) : Prop :=
  if Region.wanted o (yieldS ops s) = true then OpSteps P o (evS s) w K else K undef w
/-- What is to be shown of each operation. -/
def AllStepsG (P : Program) (ops : Array Oper) (t0 : Array Value) (L : List Nat) (J : (Nat → Bool) → (Nat → Value) → World → Prop) : Nat → List Oper → Prop
  | _, [] => True
  | i, o :: r => (∀ d s w, J d s w → (∀ k, k ∉ L → s k = t0.getD k undef) → d i = false → (∀ e ∈ o.after.toList, Region.binds .any e = true → d e.on = true) → StepG P ops o s w (fun v w' => J (did d i) (sput s o.dst v) w')) ∧ AllStepsG P ops t0 L J (i + 1) r
theorem AllStepsG.at_ {P : Program} {ops : Array Oper} {t0 : Array Value} {L : List Nat} {J : (Nat → Bool) → (Nat → Value) → World → Prop} : ∀ {i : Nat} {os : List Oper}, AllStepsG P ops t0 L J i os → ∀ {j : Nat} {o : Oper}, os[j]? = some o →
    ∀ d s w, J d s w → (∀ k, k ∉ L → s k = t0.getD k undef) → d (i + j) = false → (∀ e ∈ o.after.toList, Region.binds .any e = true → d e.on = true) → StepG P ops o s w (fun v w' => J (did d (i + j)) (sput s o.dst v) w')
  | i, [], _, j, o, h => by simp at h
  | i, x :: r, h, j, o, ho => by
    cases j with
    | zero => simp at ho; subst ho; exact h.1
    | succ j =>
      have := AllStepsG.at_ h.2 (j := j) (o := o) (by simpa using ho)
      rw [show i + (j + 1) = i + 1 + j by omega]
      exact this
section
variable {P : Program} {ops : Array Oper} {Q : Exit → Act → World → Prop} {a0 : Act} {L : List Nat} {J : (Nat → Bool) → (Nat → Value) → World → Prop}
end
end Go.Proofs.Ytelpdbkkefpjhaa
