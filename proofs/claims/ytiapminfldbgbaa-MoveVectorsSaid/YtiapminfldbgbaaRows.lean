/-
  No cell of these rows narrows 'for every input' (looked for: loops, veiled, ifaces, maps, wideKeys, modest, calm, conditions, laid).
  DERIVED. THE GIVEN ROWS OF THIS SEAT. 4 by the template 'for every input the law returns true; each argument reads behind the call as it read before'; 0 by the template 'total and deterministic' (their statements: YtiapminfldbgbaaTotals.lean).
  GIVEN WITH THE SEED: the statements are not yours to turn. If you find one false, say at which input.
  Laid BY PROGRAM, IN A SANDBOX (cutbox-rows.mjs): the forced cells as the released guide's own fill.sh prints them over the translation 152666a448f84e89… (all of the seat's roots in one cut). By AI agents, Wed Nov 11 2026. No macro, syntax, notation, axiom, sorry.
-/
import Derived.Test.YtiapminfldbgbaaChecked
import GoSem.Claim
import GoSem.ClaimJoined
import GoSem.ClaimMapViews
import Derived.JoinedTies
import Derived.KernelRfl
namespace Go.Proofs.Ytiapminfldbgbaa
/- THE CELL 'sum', in the pinned program and in every row, IS THE sha256 OF THE DUMP (.gsa) THAT YtiapminfldbgbaaProg.lean LOADS. Nothing in Lean hashes anything: it is a label: what it is worth is what the hold of that sum in a sandbox is worth. -/
noncomputable def Try.pinned : Pinned := { name := "ytiapminfldbgbaa", sum := "152666a448f84e897cf25231388411812096e05200a085796261386de42d5af3", checked := Try.checked }
namespace Rows
def none {H : Type} : Left H := { results := [], args := [] }

/-- 'straightedgelaw04.MoveVectors': WHATEVER THE INPUT: true; the input reads as it did. -/
def moveVectorsSpec : ChangeSpec := { name := "moveVectors", fn := fun _ => fun
  | [d1, d2, d3, d4] => { results := [.lit (.bool true)], args := [d1, d2, d3, d4] }
  | _ => none }
def moveVectorsRow : OpenClaim := { program := "ytiapminfldbgbaa", sum := "152666a448f84e897cf25231388411812096e05200a085796261386de42d5af3", func := "straightedge/straightedgelaw04.MoveVectors", spec := "moveVectors", inPlace := ["math.Float64bits"], apart := false }
def MoveVectorsSaid : Prop := moveVectorsRow.holds Try.pinned (OpenSpec.ofChange moveVectorsSpec)

/-- ITS FALSE NEIGHBOUR: 'it returns false'. Refute it at one input. -/
def moveVectorsWrong : ChangeSpec := { name := "moveVectors", fn := fun _ => fun
  | [d1, d2, d3, d4] => { results := [.lit (.bool false)], args := [d1, d2, d3, d4] }
  | _ => none }
def MoveVectorsWrongFalsely : Prop := moveVectorsRow.holds Try.pinned (OpenSpec.ofChange moveVectorsWrong)

/-- 'straightedgelaw04.MoveRows': WHATEVER THE INPUT: true; the input reads as it did. -/
def moveRowsSpec : ChangeSpec := { name := "moveRows", fn := fun _ => fun
  | [d1, d2, d3, d4] => { results := [.lit (.bool true)], args := [d1, d2, d3, d4] }
  | _ => none }
def moveRowsRow : OpenClaim := { program := "ytiapminfldbgbaa", sum := "152666a448f84e897cf25231388411812096e05200a085796261386de42d5af3", func := "straightedge/straightedgelaw04.MoveRows", spec := "moveRows", inPlace := ["math.Float64bits"], apart := false }
def MoveRowsSaid : Prop := moveRowsRow.holds Try.pinned (OpenSpec.ofChange moveRowsSpec)

/-- ITS FALSE NEIGHBOUR: 'it returns false'. Refute it at one input. -/
def moveRowsWrong : ChangeSpec := { name := "moveRows", fn := fun _ => fun
  | [d1, d2, d3, d4] => { results := [.lit (.bool false)], args := [d1, d2, d3, d4] }
  | _ => none }
def MoveRowsWrongFalsely : Prop := moveRowsRow.holds Try.pinned (OpenSpec.ofChange moveRowsWrong)

/-- 'straightedgelaw04.MoveClones': WHATEVER THE INPUT: true; the input reads as it did. -/
def moveClonesSpec : ChangeSpec := { name := "moveClones", fn := fun _ => fun
  | [d1, d2] => { results := [.lit (.bool true)], args := [d1, d2] }
  | _ => none }
def moveClonesRow : OpenClaim := { program := "ytiapminfldbgbaa", sum := "152666a448f84e897cf25231388411812096e05200a085796261386de42d5af3", func := "straightedge/straightedgelaw04.MoveClones", spec := "moveClones", inPlace := ["math.Float64bits"], apart := false }
def MoveClonesSaid : Prop := moveClonesRow.holds Try.pinned (OpenSpec.ofChange moveClonesSpec)

/-- ITS FALSE NEIGHBOUR: 'it returns false'. Refute it at one input. -/
def moveClonesWrong : ChangeSpec := { name := "moveClones", fn := fun _ => fun
  | [d1, d2] => { results := [.lit (.bool false)], args := [d1, d2] }
  | _ => none }
def MoveClonesWrongFalsely : Prop := moveClonesRow.holds Try.pinned (OpenSpec.ofChange moveClonesWrong)

/-- 'straightedgelaw04.MoveBack': WHATEVER THE INPUT: true; the input reads as it did. -/
def moveBackSpec : ChangeSpec := { name := "moveBack", fn := fun _ => fun
  | [d1, d2] => { results := [.lit (.bool true)], args := [d1, d2] }
  | _ => none }
def moveBackRow : OpenClaim := { program := "ytiapminfldbgbaa", sum := "152666a448f84e897cf25231388411812096e05200a085796261386de42d5af3", func := "straightedge/straightedgelaw04.MoveBack", spec := "moveBack", inPlace := ["math.Float64bits"], apart := false }
def MoveBackSaid : Prop := moveBackRow.holds Try.pinned (OpenSpec.ofChange moveBackSpec)

/-- ITS FALSE NEIGHBOUR: 'it returns false'. Refute it at one input. -/
def moveBackWrong : ChangeSpec := { name := "moveBack", fn := fun _ => fun
  | [d1, d2] => { results := [.lit (.bool false)], args := [d1, d2] }
  | _ => none }
def MoveBackWrongFalsely : Prop := moveBackRow.holds Try.pinned (OpenSpec.ofChange moveBackWrong)

/- THE SECOND FORM. 'bulk': how many values and letters a reading holds, each counted each time it is reached (what is shared counts as often as it is met; a slice's spare places count too). A statement '..UptoSaid' is the law's where the arguments, and the package variables that the reading takes, are together of bulk at most 1048576: NARROWER than '..Said'. Prove '..Said' where nothing that the law and all that it calls make is longer than what came in: it says more and counts as full. Else prove '..UptoSaid'. A law counts once. -/
mutual
def uptoBulk {H : Type} : DataW H → Nat
  | .lit (.string bytes) => bytes.length + 1
  | .lit _ => 1
  | .nil => 1
  | .ptr d => uptoBulk d + 1
  | .slice elems spare => uptoBulkAll elems + uptoBulkAll spare + 1
  | .agg parts => uptoBulkAll parts + 1
  | .iface _ d => uptoBulk d + 1
  | .map entries => uptoBulkEntries entries + 1
  | .held _ => 1
def uptoBulkAll {H : Type} : List (DataW H) → Nat
  | [] => 0
  | d :: r => uptoBulk d + uptoBulkAll r
def uptoBulkEntries {H : Type} : List (Lit × DataW H) → Nat
  | [] => 0
  | x :: r => uptoBulkEntry x + uptoBulkEntries r
def uptoBulkEntry {H : Type} : Lit × DataW H → Nat
  | (.string bytes, d) => bytes.length + uptoBulk d + 1
  | (_, d) => uptoBulk d + 1
 end
def uptoSmall : (H : Type) → List (DataW H) → Bool := fun _ ds => decide (uptoBulkAll ds ≤ 1048576)
def OpenSpec.upto (s : _root_.Go.ChangeSpec) : _root_.Go.OpenSpec := { _root_.Go.OpenSpec.ofChange s with cond := some uptoSmall }

/-- 'straightedgelaw04.MoveVectors', WHERE WHAT IT READS IS OF BULK AT MOST 1048576: true; the input reads as it did. -/
def moveVectorsUptoRow : OpenClaim := { program := "ytiapminfldbgbaa", sum := "152666a448f84e897cf25231388411812096e05200a085796261386de42d5af3", func := "straightedge/straightedgelaw04.MoveVectors", spec := "moveVectors", inPlace := ["math.Float64bits"], apart := false, narrowed := true }
def MoveVectorsUptoSaid : Prop := moveVectorsUptoRow.holds Try.pinned (OpenSpec.upto moveVectorsSpec)

/-- 'straightedgelaw04.MoveRows', WHERE WHAT IT READS IS OF BULK AT MOST 1048576: true; the input reads as it did. -/
def moveRowsUptoRow : OpenClaim := { program := "ytiapminfldbgbaa", sum := "152666a448f84e897cf25231388411812096e05200a085796261386de42d5af3", func := "straightedge/straightedgelaw04.MoveRows", spec := "moveRows", inPlace := ["math.Float64bits"], apart := false, narrowed := true }
def MoveRowsUptoSaid : Prop := moveRowsUptoRow.holds Try.pinned (OpenSpec.upto moveRowsSpec)

/-- 'straightedgelaw04.MoveClones', WHERE WHAT IT READS IS OF BULK AT MOST 1048576: true; the input reads as it did. -/
def moveClonesUptoRow : OpenClaim := { program := "ytiapminfldbgbaa", sum := "152666a448f84e897cf25231388411812096e05200a085796261386de42d5af3", func := "straightedge/straightedgelaw04.MoveClones", spec := "moveClones", inPlace := ["math.Float64bits"], apart := false, narrowed := true }
def MoveClonesUptoSaid : Prop := moveClonesUptoRow.holds Try.pinned (OpenSpec.upto moveClonesSpec)

/-- 'straightedgelaw04.MoveBack', WHERE WHAT IT READS IS OF BULK AT MOST 1048576: true; the input reads as it did. -/
def moveBackUptoRow : OpenClaim := { program := "ytiapminfldbgbaa", sum := "152666a448f84e897cf25231388411812096e05200a085796261386de42d5af3", func := "straightedge/straightedgelaw04.MoveBack", spec := "moveBack", inPlace := ["math.Float64bits"], apart := false, narrowed := true }
def MoveBackUptoSaid : Prop := moveBackUptoRow.holds Try.pinned (OpenSpec.upto moveBackSpec)

end Rows
end Go.Proofs.Ytiapminfldbgbaa
