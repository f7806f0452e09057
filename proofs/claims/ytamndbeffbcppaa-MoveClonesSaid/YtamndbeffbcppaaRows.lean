/-
  No cell of these rows narrows 'for every input' (looked for: loops, veiled, ifaces, maps, wideKeys, modest, calm, conditions, laid).
  DERIVED. THE GIVEN ROWS OF THIS SEAT. 4 by the template 'for every input the law returns true; each argument reads behind the call as it read before'; 0 by the template 'total and deterministic' (their statements: YtamndbeffbcppaaTotals.lean).
  GIVEN WITH THE SEED: the statements are not yours to turn. If you find one false, say at which input.
  Laid BY PROGRAM, IN A SANDBOX (cutbox-rows.mjs): the forced cells as the released guide's own fill.sh prints them over the translation 30826a6dac25ab3d… (all of the seat's roots in one cut). By AI agents, Wed Nov 11 2026. No macro, syntax, notation, axiom, sorry.
-/
import Derived.Test.YtamndbeffbcppaaChecked
import GoSem.Claim
import GoSem.ClaimJoined
import GoSem.ClaimMapViews
import Derived.JoinedTies
import Derived.KernelRfl
namespace Go.Proofs.Ytamndbeffbcppaa
/- THE CELL 'sum', in the pinned program and in every row, IS THE sha256 OF THE DUMP (.gsa) THAT YtamndbeffbcppaaProg.lean LOADS. Nothing in Lean hashes anything: it is a label: what it is worth is what the hold of that sum in a sandbox is worth. -/
noncomputable def Try.pinned : Pinned := { name := "ytamndbeffbcppaa", sum := "30826a6dac25ab3def47afe62d5fe33a5d008dfdd54e64577685388bc36d3890", checked := Try.checked }
namespace Rows
def none {H : Type} : Left H := { results := [], args := [] }

/-- 'straightedgelaw04.MoveRows': WHATEVER THE INPUT: true; the input reads as it did. -/
def moveRowsSpec : ChangeSpec := { name := "moveRows", fn := fun _ => fun
  | [d1, d2, d3, d4] => { results := [.lit (.bool true)], args := [d1, d2, d3, d4] }
  | _ => none }
def moveRowsRow : OpenClaim := { program := "ytamndbeffbcppaa", sum := "30826a6dac25ab3def47afe62d5fe33a5d008dfdd54e64577685388bc36d3890", func := "straightedge/straightedgelaw04.MoveRows", spec := "moveRows", inPlace := ["math.Float64bits"], apart := false }
def MoveRowsSaid : Prop := moveRowsRow.holds Try.pinned (OpenSpec.ofChange moveRowsSpec)

/-- ITS FALSE NEIGHBOUR: 'it returns false'. Refute it at one input. -/
def moveRowsWrong : ChangeSpec := { name := "moveRows", fn := fun _ => fun
  | [d1, d2, d3, d4] => { results := [.lit (.bool false)], args := [d1, d2, d3, d4] }
  | _ => none }
def MoveRowsWrongFalsely : Prop := moveRowsRow.holds Try.pinned (OpenSpec.ofChange moveRowsWrong)

/-- 'straightedgelaw04.MoveClones': WHATEVER THE INPUT: true; the input reads as it did. -/
def moveClonesSpec : ChangeSpec := { name := "moveClones", fn := fun _ => fun
  | [d1, d2] => { results := [.lit (.bool true)], args := [d1, d2] }
  | _ => none }
def moveClonesRow : OpenClaim := { program := "ytamndbeffbcppaa", sum := "30826a6dac25ab3def47afe62d5fe33a5d008dfdd54e64577685388bc36d3890", func := "straightedge/straightedgelaw04.MoveClones", spec := "moveClones", inPlace := ["math.Float64bits"], apart := false }
def MoveClonesSaid : Prop := moveClonesRow.holds Try.pinned (OpenSpec.ofChange moveClonesSpec)

/-- ITS FALSE NEIGHBOUR: 'it returns false'. Refute it at one input. -/
def moveClonesWrong : ChangeSpec := { name := "moveClones", fn := fun _ => fun
  | [d1, d2] => { results := [.lit (.bool false)], args := [d1, d2] }
  | _ => none }
def MoveClonesWrongFalsely : Prop := moveClonesRow.holds Try.pinned (OpenSpec.ofChange moveClonesWrong)

/-- 'straightedgelaw05.SumsTell': WHATEVER THE INPUT: true; the input reads as it did. -/
def sumsTellSpec : ChangeSpec := { name := "sumsTell", fn := fun _ => fun
  | [d1, d2] => { results := [.lit (.bool true)], args := [d1, d2] }
  | _ => none }
def sumsTellRow : OpenClaim := { program := "ytamndbeffbcppaa", sum := "30826a6dac25ab3def47afe62d5fe33a5d008dfdd54e64577685388bc36d3890", func := "straightedge/straightedgelaw05.SumsTell", spec := "sumsTell", inPlace := ["math.Float64bits", "math.Float64frombits"], apart := false }
def SumsTellSaid : Prop := sumsTellRow.holds Try.pinned (OpenSpec.ofChange sumsTellSpec)

/-- ITS FALSE NEIGHBOUR: 'it returns false'. Refute it at one input. -/
def sumsTellWrong : ChangeSpec := { name := "sumsTell", fn := fun _ => fun
  | [d1, d2] => { results := [.lit (.bool false)], args := [d1, d2] }
  | _ => none }
def SumsTellWrongFalsely : Prop := sumsTellRow.holds Try.pinned (OpenSpec.ofChange sumsTellWrong)

/-- 'straightedgelaw05.SumsLists': WHATEVER THE INPUT: true; the input reads as it did. -/
def sumsListsSpec : ChangeSpec := { name := "sumsLists", fn := fun _ => fun
  | [d] => { results := [.lit (.bool true)], args := [d] }
  | _ => none }
def sumsListsRow : OpenClaim := { program := "ytamndbeffbcppaa", sum := "30826a6dac25ab3def47afe62d5fe33a5d008dfdd54e64577685388bc36d3890", func := "straightedge/straightedgelaw05.SumsLists", spec := "sumsLists", inPlace := ["math.Float64bits", "math.Float64frombits"], apart := false }
def SumsListsSaid : Prop := sumsListsRow.holds Try.pinned (OpenSpec.ofChange sumsListsSpec)

/-- ITS FALSE NEIGHBOUR: 'it returns false'. Refute it at one input. -/
def sumsListsWrong : ChangeSpec := { name := "sumsLists", fn := fun _ => fun
  | [d] => { results := [.lit (.bool false)], args := [d] }
  | _ => none }
def SumsListsWrongFalsely : Prop := sumsListsRow.holds Try.pinned (OpenSpec.ofChange sumsListsWrong)

/- THE SECOND FORM. 'bulk': how many values and letters a reading holds, each counted each time it is reached (what is shared counts as often as it is met; a slice's spare places count too). A statement '..UptoSaid' is the law's where the arguments, and the package variables that the reading takes, are together of bulk at most 1048576: NARROWER than '..Said'. Prove '..Said' where nothing that the law and all that it calls make is longer than what came in: it says more and counts as full. Else prove '..UptoSaid'. A law counts once. -/
mutual
def uptoBulk {H : Type} : DataW H → Nat
  | .lit (.string bytes) => bytes.length + 1
  | .lit _ => 1
  | .nil => 1
  | .ptr d => uptoBulk d + 1
  | .slice elems spare => uptoBulkAll elems + uptoBulkAll spare + 1
  | .agg parts => uptoBulkAll parts + 1
  | .iface _ d => uptoBulk d + 1
  | .map entries => uptoBulkEntries entries + 1
  | .held _ => 1
def uptoBulkAll {H : Type} : List (DataW H) → Nat
  | [] => 0
  | d :: r => uptoBulk d + uptoBulkAll r
def uptoBulkEntries {H : Type} : List (Lit × DataW H) → Nat
  | [] => 0
  | x :: r => uptoBulkEntry x + uptoBulkEntries r
def uptoBulkEntry {H : Type} : Lit × DataW H → Nat
  | (.string bytes, d) => bytes.length + uptoBulk d + 1
  | (_, d) => uptoBulk d + 1
 end
def uptoSmall : (H : Type) → List (DataW H) → Bool := fun _ ds => decide (uptoBulkAll ds ≤ 1048576)
def OpenSpec.upto (s : _root_.Go.ChangeSpec) : _root_.Go.OpenSpec := { _root_.Go.OpenSpec.ofChange s with cond := some uptoSmall }

/-- 'straightedgelaw04.MoveRows', WHERE WHAT IT READS IS OF BULK AT MOST 1048576: true; the input reads as it did. -/
def moveRowsUptoRow : OpenClaim := { program := "ytamndbeffbcppaa", sum := "30826a6dac25ab3def47afe62d5fe33a5d008dfdd54e64577685388bc36d3890", func := "straightedge/straightedgelaw04.MoveRows", spec := "moveRows", inPlace := ["math.Float64bits"], apart := false, narrowed := true }
def MoveRowsUptoSaid : Prop := moveRowsUptoRow.holds Try.pinned (OpenSpec.upto moveRowsSpec)

/-- 'straightedgelaw04.MoveClones', WHERE WHAT IT READS IS OF BULK AT MOST 1048576: true; the input reads as it did. -/
def moveClonesUptoRow : OpenClaim := { program := "ytamndbeffbcppaa", sum := "30826a6dac25ab3def47afe62d5fe33a5d008dfdd54e64577685388bc36d3890", func := "straightedge/straightedgelaw04.MoveClones", spec := "moveClones", inPlace := ["math.Float64bits"], apart := false, narrowed := true }
def MoveClonesUptoSaid : Prop := moveClonesUptoRow.holds Try.pinned (OpenSpec.upto moveClonesSpec)

/-- 'straightedgelaw05.SumsTell', WHERE WHAT IT READS IS OF BULK AT MOST 1048576: true; the input reads as it did. -/
def sumsTellUptoRow : OpenClaim := { program := "ytamndbeffbcppaa", sum := "30826a6dac25ab3def47afe62d5fe33a5d008dfdd54e64577685388bc36d3890", func := "straightedge/straightedgelaw05.SumsTell", spec := "sumsTell", inPlace := ["math.Float64bits", "math.Float64frombits"], apart := false, narrowed := true }
def SumsTellUptoSaid : Prop := sumsTellUptoRow.holds Try.pinned (OpenSpec.upto sumsTellSpec)

/-- 'straightedgelaw05.SumsLists', WHERE WHAT IT READS IS OF BULK AT MOST 1048576: true; the input reads as it did. -/
def sumsListsUptoRow : OpenClaim := { program := "ytamndbeffbcppaa", sum := "30826a6dac25ab3def47afe62d5fe33a5d008dfdd54e64577685388bc36d3890", func := "straightedge/straightedgelaw05.SumsLists", spec := "sumsLists", inPlace := ["math.Float64bits", "math.Float64frombits"], apart := false, narrowed := true }
def SumsListsUptoSaid : Prop := sumsListsUptoRow.holds Try.pinned (OpenSpec.upto sumsListsSpec)

end Rows
end Go.Proofs.Ytamndbeffbcppaa
