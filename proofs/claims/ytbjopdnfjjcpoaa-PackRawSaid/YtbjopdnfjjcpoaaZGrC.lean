/-
Ger: the program's Ger, why not, and what it makes. Conditions: as each says.
-/
import Derived.Test.YtbjopdnfjjcpoaaZGrB
set_option linter.unusedVariables false
set_option linter.unusedSimpArgs false
set_option linter.unnecessarySimpa false
namespace Go.Proofs.Ytbjopdnfjjcpoaa
open Go.RowKit
attribute [local go_sem ↓] Go.wp_at_zero Go.wp_at_succ

theorem cells1g {w : World} {g : Nat} {t : TypeId} {v : Value} (h : Blk w g t #[v]) : w.cell? ⟨g, 0, none⟩ = some v ∧ True := ⟨h.cell 0, trivial⟩
/-- What Ger makes of a number: a times y's, times x's, is added. -/
def GerR (a : Nat) (lx : List Nat) (ox ix : Nat) (ly : List Nat) (oy iy : Nat) (l : List Nat) (o L : Nat) (i j r : Nat) : Prop :=
  ∃ t p, Comes .mul a (ly.getD (oy + j * iy) 0) t ∧ Comes .mul t (lx.getD (ox + i * ix) 0) p ∧ Comes .add (l.getD (o + i + j * L) 0) p r
end Go.Proofs.Ytbjopdnfjjcpoaa
