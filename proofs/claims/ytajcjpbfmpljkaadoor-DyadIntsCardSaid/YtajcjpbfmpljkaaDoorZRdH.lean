/-
The document's at, ends, Minus, Abs, Sign. Conditions: the places lie within 2^40.
-/
import Derived.Test.YtajcjpbfmpljkaaDoorZRdF
import Derived.Test.YtajcjpbfmpljkaaDoorZRdG
import Derived.BigQuiet
import Derived.Deep.QuietTactic
set_option linter.unusedVariables false
set_option linter.unusedSimpArgs false
namespace Go.Proofs.YtajcjpbfmpljkaaDoor
open Go.RowKit
attribute [local go_sem ↓] Go.wp_at_zero Go.wp_at_succ

/-- Stores into a block that isn't one of ints don't touch the digits. -/
theorem Rd.far {w : World} {A : Option Addr} {n c : Nat} {L : List Nat} (h : Rd w A n c L) {g : Nat} {t : TypeId} {cs : Array Value} (hB : Blk w g t cs) (ht : t ≠ 3) (i : Nat) (u : Value) : Rd (w.setCell ⟨g, i, none⟩ u) A n c L := by
  refine ⟨h.1, h.2.1, ?_, h.2.2.2.1, fun b y e hl => (h.2.2.2.2 b y e hl).set_ _ _⟩
  cases L with
  | nil => exact .inl rfl
  | cons x L =>
    rcases h.2.2.1 with h0 | ⟨b, o, e, hc⟩
    · simp [ints] at h0
    · exact .inr ⟨b, o, e, fun j v hj => (cell_set ((h.2.2.2.2 b o e (by simp)).ne hB ht) u).trans (hc j v hj)⟩
/-- The cells of the document's number. -/
def dcells (neg : Bool) (A : Option Addr) (n c : Nat) (E : Int) : Array Value := #[.bool neg, .slice A n c, .int .i64 E]
theorem iwrap_in {z : Int} (h : z.natAbs ≤ 8796093022208) : IntKind.i64.wrap z = z := IntWalk.i64_in _ (by omega)
theorem wrap64_in {z : Int} (h : z.natAbs ≤ 8796093022208) : wrap64 z = z := by unfold wrap64; omega
end Go.Proofs.YtajcjpbfmpljkaaDoor
