/-
Axes: a number's place; what is handed in for each number. Conditions: as each says.
-/
import Derived.Test.YtlhdcajamempoaaZSmA
import Derived.Test.YtlhdcajamempoaaZIng
import Derived.Test.YtlhdcajamempoaaGo
set_option linter.unusedVariables false
set_option linter.unusedSimpArgs false
set_option linter.unnecessarySimpa false
namespace Go.Proofs.Ytlhdcajamempoaa
open Go.RowKit
attribute [local go_sem ↓] Go.wp_at_zero Go.wp_at_succ

/-- Is it at least 0? -/
def geB (a : Nat) : Bool := FloatKind.f64.format.order a 0 == some .gt || FloatKind.f64.format.order a 0 == some .eq
/-- 1 or -1. -/
def sgnW (a : Nat) : Nat := if geB a = true then 4607182418800017408 else 13830554455654793216
end Go.Proofs.Ytlhdcajamempoaa
/-
Axes: each number of a vector goes through what is handed in. Conditions: the vector is right, its list the call's own.
-/
set_option linter.unusedVariables false
set_option linter.unusedSimpArgs false
set_option linter.unnecessarySimpa false
namespace Go.Proofs.Ytlhdcajamempoaa
open Go.RowKit
attribute [local go_sem ↓] Go.wp_at_zero Go.wp_at_succ

theorem wrt_more (l : List Nat) (o i : Nat) (m : List Nat) (x : Nat) : ∀ k, k ≤ m.length → wrt l o i (m ++ [x]) k = wrt l o i m k
  | 0, _ => rfl
  | k + 1, h => by
    show (wrt l o i (m ++ [x]) k).set (o + k * i) ((m ++ [x]).getD k 0) = (wrt l o i m k).set (o + k * i) (m.getD k 0)
    rw [wrt_more l o i m x k (by omega)]
    congr 1
    simp [List.getD, List.getElem?_append_left (show k < m.length by omega)]
theorem wrt_last (l : List Nat) (o i : Nat) (m : List Nat) (x k : Nat) (h : m.length = k) : wrt l o i (m ++ [x]) (k + 1) = (wrt l o i m k).set (o + k * i) x := by
  show (wrt l o i (m ++ [x]) k).set (o + k * i) ((m ++ [x]).getD k 0) = _
  rw [wrt_more l o i m x k (by omega)]
  congr 1
  subst h
  simp [List.getD]
/-- One number has been stored. -/
def Stored (g P : Nat) (R : Nat → Prop) (wr W : World) : Prop := ∃ W' r, Below wr.heap.size wr W' ∧ W = W'.setCell ⟨g, P, none⟩ (.float .f64 r) ∧ R r
/-- Each number has become what was asked. -/
def Eached (I : World → Prop) (R : Nat → Nat → Prop) (g : Nat) (l : List Nat) (o i K : Nat) (w : World) (e : Ending) (w' : World) : Prop :=
  e = .returned (.tuple #[]) ∧ ∃ m : List Nat, m.length = K ∧ (∀ q, q < K → R q (m.getD q 0)) ∧ Own w' g (wrt l o i m K) ∧ I w' ∧ Chg [g] w w'
theorem frz_below {W W' : World} {b o : Nat} (h : W.frozen? ⟨b, o, none⟩ = false) (hlt : b < W.heap.size) (hb : Below W.heap.size W W') : W'.frozen? ⟨b, o, none⟩ = false := (hb.frozen (p := ⟨b, o, none⟩) hlt).trans h

end Go.Proofs.Ytlhdcajamempoaa
