/-
  No cell of these rows narrows 'for every input' (looked for: loops, veiled, ifaces, maps, wideKeys, modest, calm, conditions, laid).
  DERIVED. THE GIVEN ROWS OF THIS SEAT. 4 by the template 'for every input the law returns true; each argument reads behind the call as it read before'; 0 by the template 'total and deterministic' (their statements: YtmjaakngiilmdaaTotals.lean).
  GIVEN WITH THE SEED: the statements are not yours to turn. If you find one false, say at which input.
  Laid BY PROGRAM, IN A SANDBOX (cutbox-rows.mjs): the forced cells as the released guide's own fill.sh prints them over the translation 602adfbe8cd1bdc8… (all of the seat's roots in one cut). By AI agents, Wed Nov 11 2026. No macro, syntax, notation, axiom, sorry.
-/
import Derived.Test.YtmjaakngiilmdaaChecked
import GoSem.Claim
import GoSem.ClaimJoined
import GoSem.ClaimMapViews
import Derived.JoinedTies
import Derived.KernelRfl
namespace Go.Proofs.Ytmjaakngiilmdaa
/- THE CELL 'sum', in the pinned program and in every row, IS THE sha256 OF THE DUMP (.gsa) THAT YtmjaakngiilmdaaProg.lean LOADS. Nothing in Lean hashes anything: it is a label: what it is worth is what the hold of that sum in a sandbox is worth. -/
noncomputable def Try.pinned : Pinned := { name := "ytmjaakngiilmdaa", sum := "602adfbe8cd1bdc8612e0797883b7b31949919bb475ebdb8fd5d704aae786578", checked := Try.checked }
namespace Rows
def none {H : Type} : Left H := { results := [], args := [] }

/-- 'straightedgelaw07.GemvTurns': WHATEVER THE INPUT: true; the input reads as it did. -/
def gemvTurnsSpec : ChangeSpec := { name := "gemvTurns", fn := fun _ => fun
  | [d1, d2, d3, d4] => { results := [.lit (.bool true)], args := [d1, d2, d3, d4] }
  | _ => none }
def gemvTurnsRow : OpenClaim := { program := "ytmjaakngiilmdaa", sum := "602adfbe8cd1bdc8612e0797883b7b31949919bb475ebdb8fd5d704aae786578", func := "straightedge/straightedgelaw07.GemvTurns", spec := "gemvTurns", inPlace := ["math.Float64bits", "math.Float64frombits"], unfollowed := true, recurses := true, apart := false }
def GemvTurnsSaid : Prop := gemvTurnsRow.holds Try.pinned (OpenSpec.ofChange gemvTurnsSpec)

/-- ITS FALSE NEIGHBOUR: 'it returns false'. Refute it at one input. -/
def gemvTurnsWrong : ChangeSpec := { name := "gemvTurns", fn := fun _ => fun
  | [d1, d2, d3, d4] => { results := [.lit (.bool false)], args := [d1, d2, d3, d4] }
  | _ => none }
def GemvTurnsWrongFalsely : Prop := gemvTurnsRow.holds Try.pinned (OpenSpec.ofChange gemvTurnsWrong)

/-- 'straightedgelaw08.GerTells': WHATEVER THE INPUT: true; the input reads as it did. -/
def gerTellsSpec : ChangeSpec := { name := "gerTells", fn := fun _ => fun
  | [d1, d2, d3, d4, d5] => { results := [.lit (.bool true)], args := [d1, d2, d3, d4, d5] }
  | _ => none }
def gerTellsRow : OpenClaim := { program := "ytmjaakngiilmdaa", sum := "602adfbe8cd1bdc8612e0797883b7b31949919bb475ebdb8fd5d704aae786578", func := "straightedge/straightedgelaw08.GerTells", spec := "gerTells", inPlace := ["math.Float64bits"], unfollowed := true, recurses := true, apart := false }
def GerTellsSaid : Prop := gerTellsRow.holds Try.pinned (OpenSpec.ofChange gerTellsSpec)

/-- ITS FALSE NEIGHBOUR: 'it returns false'. Refute it at one input. -/
def gerTellsWrong : ChangeSpec := { name := "gerTells", fn := fun _ => fun
  | [d1, d2, d3, d4, d5] => { results := [.lit (.bool false)], args := [d1, d2, d3, d4, d5] }
  | _ => none }
def GerTellsWrongFalsely : Prop := gerTellsRow.holds Try.pinned (OpenSpec.ofChange gerTellsWrong)

/-- 'straightedgelaw08.GerShifts': WHATEVER THE INPUT: true; the input reads as it did. -/
def gerShiftsSpec : ChangeSpec := { name := "gerShifts", fn := fun _ => fun
  | [d1, d2, d3] => { results := [.lit (.bool true)], args := [d1, d2, d3] }
  | _ => none }
def gerShiftsRow : OpenClaim := { program := "ytmjaakngiilmdaa", sum := "602adfbe8cd1bdc8612e0797883b7b31949919bb475ebdb8fd5d704aae786578", func := "straightedge/straightedgelaw08.GerShifts", spec := "gerShifts", inPlace := ["math.Float64bits", "math.Float64frombits"], unfollowed := true, recurses := true, apart := false }
def GerShiftsSaid : Prop := gerShiftsRow.holds Try.pinned (OpenSpec.ofChange gerShiftsSpec)

/-- ITS FALSE NEIGHBOUR: 'it returns false'. Refute it at one input. -/
def gerShiftsWrong : ChangeSpec := { name := "gerShifts", fn := fun _ => fun
  | [d1, d2, d3] => { results := [.lit (.bool false)], args := [d1, d2, d3] }
  | _ => none }
def GerShiftsWrongFalsely : Prop := gerShiftsRow.holds Try.pinned (OpenSpec.ofChange gerShiftsWrong)

/-- 'straightedgelaw08.GerEyes': WHATEVER THE INPUT: true; the input reads as it did. -/
def gerEyesSpec : ChangeSpec := { name := "gerEyes", fn := fun _ => fun
  | [d] => { results := [.lit (.bool true)], args := [d] }
  | _ => none }
def gerEyesRow : OpenClaim := { program := "ytmjaakngiilmdaa", sum := "602adfbe8cd1bdc8612e0797883b7b31949919bb475ebdb8fd5d704aae786578", func := "straightedge/straightedgelaw08.GerEyes", spec := "gerEyes", inPlace := ["math.Float64bits"], unfollowed := true, recurses := true, apart := false }
def GerEyesSaid : Prop := gerEyesRow.holds Try.pinned (OpenSpec.ofChange gerEyesSpec)

/-- ITS FALSE NEIGHBOUR: 'it returns false'. Refute it at one input. -/
def gerEyesWrong : ChangeSpec := { name := "gerEyes", fn := fun _ => fun
  | [d] => { results := [.lit (.bool false)], args := [d] }
  | _ => none }
def GerEyesWrongFalsely : Prop := gerEyesRow.holds Try.pinned (OpenSpec.ofChange gerEyesWrong)

/- THE SECOND FORM. 'bulk': how many values and letters a reading holds, each counted each time it is reached (what is shared counts as often as it is met; a slice's spare places count too). A statement '..UptoSaid' is the law's where the arguments, and the package variables that the reading takes, are together of bulk at most 1048576: NARROWER than '..Said'. Prove '..Said' where nothing that the law and all that it calls make is longer than what came in: it says more and counts as full. Else prove '..UptoSaid'. A law counts once. -/
mutual
def uptoBulk {H : Type} : DataW H → Nat
  | .lit (.string bytes) => bytes.length + 1
  | .lit _ => 1
  | .nil => 1
  | .ptr d => uptoBulk d + 1
  | .slice elems spare => uptoBulkAll elems + uptoBulkAll spare + 1
  | .agg parts => uptoBulkAll parts + 1
  | .iface _ d => uptoBulk d + 1
  | .map entries => uptoBulkEntries entries + 1
  | .held _ => 1
def uptoBulkAll {H : Type} : List (DataW H) → Nat
  | [] => 0
  | d :: r => uptoBulk d + uptoBulkAll r
def uptoBulkEntries {H : Type} : List (Lit × DataW H) → Nat
  | [] => 0
  | x :: r => uptoBulkEntry x + uptoBulkEntries r
def uptoBulkEntry {H : Type} : Lit × DataW H → Nat
  | (.string bytes, d) => bytes.length + uptoBulk d + 1
  | (_, d) => uptoBulk d + 1
 end
def uptoSmall : (H : Type) → List (DataW H) → Bool := fun _ ds => decide (uptoBulkAll ds ≤ 1048576)
def OpenSpec.upto (s : _root_.Go.ChangeSpec) : _root_.Go.OpenSpec := { _root_.Go.OpenSpec.ofChange s with cond := some uptoSmall }

/-- 'straightedgelaw07.GemvTurns', WHERE WHAT IT READS IS OF BULK AT MOST 1048576: true; the input reads as it did. -/
def gemvTurnsUptoRow : OpenClaim := { program := "ytmjaakngiilmdaa", sum := "602adfbe8cd1bdc8612e0797883b7b31949919bb475ebdb8fd5d704aae786578", func := "straightedge/straightedgelaw07.GemvTurns", spec := "gemvTurns", inPlace := ["math.Float64bits", "math.Float64frombits"], unfollowed := true, recurses := true, apart := false, narrowed := true }
def GemvTurnsUptoSaid : Prop := gemvTurnsUptoRow.holds Try.pinned (OpenSpec.upto gemvTurnsSpec)

/-- 'straightedgelaw08.GerTells', WHERE WHAT IT READS IS OF BULK AT MOST 1048576: true; the input reads as it did. -/
def gerTellsUptoRow : OpenClaim := { program := "ytmjaakngiilmdaa", sum := "602adfbe8cd1bdc8612e0797883b7b31949919bb475ebdb8fd5d704aae786578", func := "straightedge/straightedgelaw08.GerTells", spec := "gerTells", inPlace := ["math.Float64bits"], unfollowed := true, recurses := true, apart := false, narrowed := true }
def GerTellsUptoSaid : Prop := gerTellsUptoRow.holds Try.pinned (OpenSpec.upto gerTellsSpec)

/-- 'straightedgelaw08.GerShifts', WHERE WHAT IT READS IS OF BULK AT MOST 1048576: true; the input reads as it did. -/
def gerShiftsUptoRow : OpenClaim := { program := "ytmjaakngiilmdaa", sum := "602adfbe8cd1bdc8612e0797883b7b31949919bb475ebdb8fd5d704aae786578", func := "straightedge/straightedgelaw08.GerShifts", spec := "gerShifts", inPlace := ["math.Float64bits", "math.Float64frombits"], unfollowed := true, recurses := true, apart := false, narrowed := true }
def GerShiftsUptoSaid : Prop := gerShiftsUptoRow.holds Try.pinned (OpenSpec.upto gerShiftsSpec)

/-- 'straightedgelaw08.GerEyes', WHERE WHAT IT READS IS OF BULK AT MOST 1048576: true; the input reads as it did. -/
def gerEyesUptoRow : OpenClaim := { program := "ytmjaakngiilmdaa", sum := "602adfbe8cd1bdc8612e0797883b7b31949919bb475ebdb8fd5d704aae786578", func := "straightedge/straightedgelaw08.GerEyes", spec := "gerEyes", inPlace := ["math.Float64bits"], unfollowed := true, recurses := true, apart := false, narrowed := true }
def GerEyesUptoSaid : Prop := gerEyesUptoRow.holds Try.pinned (OpenSpec.upto gerEyesSpec)

end Rows
end Go.Proofs.Ytmjaakngiilmdaa
