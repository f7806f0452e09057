/-
Vectors and matrices: which are right, by the program and by the document. Conditions: the numbers are of an int's range, the lists' lengths below 2^62.
-/
import Derived.Test.YtajcjpbfmpljkaaDoorGb
import Derived.Test.YtajcjpbfmpljkaaDoorZNumA
import Derived.WalkLawsBesides
import Derived.WalkSpells
import Derived.LoopTactic
import Derived.Outline
import Derived.Deep.QuietTactic
import Derived.BigQuiet
import Derived.RegionTactic
set_option linter.unusedVariables false
namespace Go.Proofs.YtajcjpbfmpljkaaDoor
open Go.RowKit

/-- An int's range. -/
def I64 (z : Int) : Prop := -9223372036854775808 ≤ z ∧ z < 9223372036854775808

theorem Blk.nxt {w w' : World} {g : Nat} {t : TypeId} {cs : Array Value} (h : Blk w g t cs) (hb : Below w.heap.size w w') : Blk w' g t cs := h.below hb h.lt
theorem cells5 {w : World} {g : Nat} {t : TypeId} {v0 v1 v2 v3 v4 : Value} (h : Blk w g t #[v0, v1, v2, v3, v4]) :
    w.cell? ⟨g, 0, none⟩ = some v0 ∧ w.cell? ⟨g, 1, none⟩ = some v1 ∧ w.cell? ⟨g, 2, none⟩ = some v2 ∧ w.cell? ⟨g, 3, none⟩ = some v3 ∧ w.cell? ⟨g, 4, none⟩ = some v4 :=
  ⟨h.cell 0, h.cell 1, h.cell 2, h.cell 3, h.cell 4⟩
/-- A matrix. -/
def mat (A : Option Addr) (n c : Nat) (off r k ld : Int) : Value := .agg #[.slice A n c, .int .i64 off, .int .i64 r, .int .i64 k, .int .i64 ld]
/-- Is the last of n numbers, from off on and inc apart, below L? -/
def reachB (L off n inc : Int) : Bool := decide (off + (n - 1) * inc < L)
theorem reach_iff {L off n inc : Int} (hinc : 1 ≤ inc) (hl : off < L) : (n - 1 ≤ (L - 1 - off) / inc) ↔ off + (n - 1) * inc < L := by
  rw [Int.le_ediv_iff_mul_le (by omega)]; omega

theorem wrap_id {z : Int} (h : I64 z) : wrap64 z = z := by unfold I64 at h; unfold wrap64; omega

/-- Is off + a b + c below n? -/
def belowB (n off a b c : Int) : Bool := decide (off + a * b + c < n)
theorem below_iff {n off a b c : Int} (ha : 1 ≤ a) (hb : 0 ≤ b) : b ≤ (n - off - c - 1) / a ↔ off + a * b + c < n := by
  rw [Int.le_ediv_iff_mul_le (by omega), Int.mul_comm]; omega

/-- Is a vector of k numbers in a list of n right? -/
def vecB (n : Nat) (off k inc : Int) : Bool := decide (0 ≤ k ∧ 1 ≤ inc ∧ 0 ≤ off ∧ (k = 0 ∨ off + (k - 1) * inc < n))
/-- Is a matrix of r rows and k columns in a list of n right? -/
def matB (n : Nat) (off r k ld : Int) : Bool := decide (0 ≤ r ∧ 0 ≤ k ∧ 1 ≤ ld ∧ r ≤ ld ∧ 0 ≤ off ∧ (r = 0 ∨ k = 0 ∨ off + (k - 1) * ld + (r - 1) < n))

end Go.Proofs.YtajcjpbfmpljkaaDoor
