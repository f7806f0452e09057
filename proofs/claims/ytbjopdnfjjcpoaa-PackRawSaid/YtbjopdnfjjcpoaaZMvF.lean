/-
Parts and rows of a matrix. Conditions: the numbers are of an int's range.
-/
import Derived.Test.YtbjopdnfjjcpoaaZMvE
set_option linter.unusedVariables false
namespace Go.Proofs.Ytbjopdnfjjcpoaa
open Go.RowKit
attribute [local go_sem ↓] Go.wp_at_zero Go.wp_at_succ

theorem heldW5 {W w' : World} {b0 o0 b1 o1 b2 o2 b3 o3 b4 o4 g : Nat} {v0 v1 v2 v3 v4 : Value} {R : World → Prop} (h : W.cell? ⟨b0, o0, none⟩ = some v0 ∧ W.cell? ⟨b1, o1, none⟩ = some v1 ∧ W.cell? ⟨b2, o2, none⟩ = some v2 ∧ W.cell? ⟨b3, o3, none⟩ = some v3 ∧ W.cell? ⟨b4, o4, none⟩ = some v4 ∧ R W) (hk : ∀ b o, b ≠ g → w'.cell? ⟨b, o, none⟩ = W.cell? ⟨b, o, none⟩) (n0 : b0 ≠ g) (n1 : b1 ≠ g) (n2 : b2 ≠ g) (n3 : b3 ≠ g) (n4 : b4 ≠ g) (hR : R W → R w') :
    w'.cell? ⟨b0, o0, none⟩ = some v0 ∧ w'.cell? ⟨b1, o1, none⟩ = some v1 ∧ w'.cell? ⟨b2, o2, none⟩ = some v2 ∧ w'.cell? ⟨b3, o3, none⟩ = some v3 ∧ w'.cell? ⟨b4, o4, none⟩ = some v4 ∧ R w' :=
  ⟨(hk _ _ n0).trans h.1, (hk _ _ n1).trans h.2.1, (hk _ _ n2).trans h.2.2.1, (hk _ _ n3).trans h.2.2.2.1, (hk _ _ n4).trans h.2.2.2.2.1, hR h.2.2.2.2.2⟩
theorem cell_sets4 {w : World} {b o g : Nat} (h : b ≠ g) (x0 x1 x2 x3 : Value) : ((((w.setCell ⟨g, 0, none⟩ x0).setCell ⟨g, 1, none⟩ x1).setCell ⟨g, 2, none⟩ x2).setCell ⟨g, 3, none⟩ x3).cell? ⟨b, o, none⟩ = w.cell? ⟨b, o, none⟩ := by
  rw [cell_set h, cell_set h, cell_set h, cell_set h]
theorem cell_sets5 {w : World} {b o g : Nat} (h : b ≠ g) (x0 x1 x2 x3 x4 : Value) : (((((w.setCell ⟨g, 0, none⟩ x0).setCell ⟨g, 1, none⟩ x1).setCell ⟨g, 2, none⟩ x2).setCell ⟨g, 3, none⟩ x3).setCell ⟨g, 4, none⟩ x4).cell? ⟨b, o, none⟩ = w.cell? ⟨b, o, none⟩ := by
  rw [cell_set h, cell_set h, cell_set h, cell_set h, cell_set h]
theorem below_sets4 {B g : Nat} {a w : World} (h : Below B a w) (hg : B ≤ g) (x0 x1 x2 x3 : Value) : Below B a ((((w.setCell ⟨g, 0, none⟩ x0).setCell ⟨g, 1, none⟩ x1).setCell ⟨g, 2, none⟩ x2).setCell ⟨g, 3, none⟩ x3) :=
  (((h.setCell (p := ⟨g, 0, none⟩) hg x0).setCell (p := ⟨g, 1, none⟩) hg x1).setCell (p := ⟨g, 2, none⟩) hg x2).setCell (p := ⟨g, 3, none⟩) hg x3
theorem below_sets5 {B g : Nat} {a w : World} (h : Below B a w) (hg : B ≤ g) (x0 x1 x2 x3 x4 : Value) : Below B a (((((w.setCell ⟨g, 0, none⟩ x0).setCell ⟨g, 1, none⟩ x1).setCell ⟨g, 2, none⟩ x2).setCell ⟨g, 3, none⟩ x3).setCell ⟨g, 4, none⟩ x4) :=
  (below_sets4 h hg x0 x1 x2 x3).setCell (p := ⟨g, 4, none⟩) hg x4
theorem Blk.store4v {w : World} {g : Nat} {t : TypeId} {x0 x1 x2 x3 : Value} (h : Blk w g t #[x0, x1, x2, x3]) (u0 u1 u2 u3 : Value) :
    Blk ((((w.setCell ⟨g, 0, none⟩ u0).setCell ⟨g, 1, none⟩ u1).setCell ⟨g, 2, none⟩ u2).setCell ⟨g, 3, none⟩ u3) g t #[u0, u1, u2, u3] := h.store4 u0 u1 u2 u3

@[go_sem] theorem run_field_Off (A : Option Addr) (n c : Nat) (off r k ld : Int) (w : World) :
    (Instr.field 24 (.agg #[.slice A n c, .int .i64 off, .int .i64 r, .int .i64 k, .int .i64 ld]) 1).run Try.prog w = .ok (.int .i64 off) w := by kernel_rfl

/-- Are n places from i on among all? -/
def fitsB (i n all : Int) : Bool := decide (0 ≤ i ∧ 0 ≤ n ∧ n ≤ all - i)
/-- There is such a part. -/
def partB (n : Nat) (off r k ld i j rows cols : Int) : Bool := matB n off r k ld && fitsB i rows r && fitsB j cols k
/-- Where a part begins. -/
def partOff (off ld i j rows cols : Int) : Int := if rows = 0 ∨ cols = 0 then off else off + i + j * ld
/-- A row that is there. -/
def rowOff (off k i : Int) : Int := if k = 0 then off else off + i
end Go.Proofs.Ytbjopdnfjjcpoaa
