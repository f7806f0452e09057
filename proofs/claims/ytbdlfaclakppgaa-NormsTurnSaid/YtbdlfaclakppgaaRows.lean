/-
  No cell of these rows narrows 'for every input' (looked for: loops, veiled, ifaces, maps, wideKeys, modest, calm, conditions, laid).
  DERIVED. THE GIVEN ROWS OF THIS SEAT. 3 by the template 'for every input the law returns true; each argument reads behind the call as it read before'; 0 by the template 'total and deterministic' (their statements: YtbdlfaclakppgaaTotals.lean).
  GIVEN WITH THE SEED: the statements are not yours to turn. If you find one false, say at which input.
  Laid BY PROGRAM, IN A SANDBOX (cutbox-rows.mjs): the forced cells as the released guide's own fill.sh prints them over the translation dce26a1f7f42420d… (all of the seat's roots in one cut). By AI agents, Wed Nov 11 2026. No macro, syntax, notation, axiom, sorry.
-/
import Derived.Test.YtbdlfaclakppgaaChecked
import GoSem.Claim
import GoSem.ClaimJoined
import GoSem.ClaimMapViews
import Derived.JoinedTies
import Derived.KernelRfl
namespace Go.Proofs.Ytbdlfaclakppgaa
/- THE CELL 'sum', in the pinned program and in every row, IS THE sha256 OF THE DUMP (.gsa) THAT YtbdlfaclakppgaaProg.lean LOADS. Nothing in Lean hashes anything: it is a label: what it is worth is what the hold of that sum in a sandbox is worth. -/
noncomputable def Try.pinned : Pinned := { name := "ytbdlfaclakppgaa", sum := "dce26a1f7f42420dc1da58341cfb9027ca6c319181bf4f6ecbfb00cc3cf4950e", checked := Try.checked }
namespace Rows
def none {H : Type} : Left H := { results := [], args := [] }

/-- 'straightedgelaw10.NormsTell': WHATEVER THE INPUT: true; the input reads as it did. -/
def normsTellSpec : ChangeSpec := { name := "normsTell", fn := fun _ => fun
  | [d] => { results := [.lit (.bool true)], args := [d] }
  | _ => none }
def normsTellRow : OpenClaim := { program := "ytbdlfaclakppgaa", sum := "dce26a1f7f42420dc1da58341cfb9027ca6c319181bf4f6ecbfb00cc3cf4950e", func := "straightedge/straightedgelaw10.NormsTell", spec := "normsTell", inPlace := ["math.Float64bits", "math.Float64frombits"], unfollowed := true, recurses := true, apart := false }
def NormsTellSaid : Prop := normsTellRow.holds Try.pinned (OpenSpec.ofChange normsTellSpec)

/-- ITS FALSE NEIGHBOUR: 'it returns false'. Refute it at one input. -/
def normsTellWrong : ChangeSpec := { name := "normsTell", fn := fun _ => fun
  | [d] => { results := [.lit (.bool false)], args := [d] }
  | _ => none }
def NormsTellWrongFalsely : Prop := normsTellRow.holds Try.pinned (OpenSpec.ofChange normsTellWrong)

/-- 'straightedgelaw10.NormsVectors': WHATEVER THE INPUT: true; the input reads as it did. -/
def normsVectorsSpec : ChangeSpec := { name := "normsVectors", fn := fun _ => fun
  | [d] => { results := [.lit (.bool true)], args := [d] }
  | _ => none }
def normsVectorsRow : OpenClaim := { program := "ytbdlfaclakppgaa", sum := "dce26a1f7f42420dc1da58341cfb9027ca6c319181bf4f6ecbfb00cc3cf4950e", func := "straightedge/straightedgelaw10.NormsVectors", spec := "normsVectors", inPlace := ["math.Float64bits", "math.Float64frombits"], unfollowed := true, recurses := true, apart := false }
def NormsVectorsSaid : Prop := normsVectorsRow.holds Try.pinned (OpenSpec.ofChange normsVectorsSpec)

/-- ITS FALSE NEIGHBOUR: 'it returns false'. Refute it at one input. -/
def normsVectorsWrong : ChangeSpec := { name := "normsVectors", fn := fun _ => fun
  | [d] => { results := [.lit (.bool false)], args := [d] }
  | _ => none }
def NormsVectorsWrongFalsely : Prop := normsVectorsRow.holds Try.pinned (OpenSpec.ofChange normsVectorsWrong)

/-- 'straightedgelaw10.NormsTurn': WHATEVER THE INPUT: true; the input reads as it did. -/
def normsTurnSpec : ChangeSpec := { name := "normsTurn", fn := fun _ => fun
  | [d] => { results := [.lit (.bool true)], args := [d] }
  | _ => none }
def normsTurnRow : OpenClaim := { program := "ytbdlfaclakppgaa", sum := "dce26a1f7f42420dc1da58341cfb9027ca6c319181bf4f6ecbfb00cc3cf4950e", func := "straightedge/straightedgelaw10.NormsTurn", spec := "normsTurn", inPlace := ["math.Float64bits", "math.Float64frombits"], unfollowed := true, recurses := true, apart := false }
def NormsTurnSaid : Prop := normsTurnRow.holds Try.pinned (OpenSpec.ofChange normsTurnSpec)

/-- ITS FALSE NEIGHBOUR: 'it returns false'. Refute it at one input. -/
def normsTurnWrong : ChangeSpec := { name := "normsTurn", fn := fun _ => fun
  | [d] => { results := [.lit (.bool false)], args := [d] }
  | _ => none }
def NormsTurnWrongFalsely : Prop := normsTurnRow.holds Try.pinned (OpenSpec.ofChange normsTurnWrong)

/- THE SECOND FORM. 'bulk': how many values and letters a reading holds, each counted each time it is reached (what is shared counts as often as it is met; a slice's spare places count too). A statement '..UptoSaid' is the law's where the arguments, and the package variables that the reading takes, are together of bulk at most 1048576: NARROWER than '..Said'. Prove '..Said' where nothing that the law and all that it calls make is longer than what came in: it says more and counts as full. Else prove '..UptoSaid'. A law counts once. -/
mutual
def uptoBulk {H : Type} : DataW H → Nat
  | .lit (.string bytes) => bytes.length + 1
  | .lit _ => 1
  | .nil => 1
  | .ptr d => uptoBulk d + 1
  | .slice elems spare => uptoBulkAll elems + uptoBulkAll spare + 1
  | .agg parts => uptoBulkAll parts + 1
  | .iface _ d => uptoBulk d + 1
  | .map entries => uptoBulkEntries entries + 1
  | .held _ => 1
def uptoBulkAll {H : Type} : List (DataW H) → Nat
  | [] => 0
  | d :: r => uptoBulk d + uptoBulkAll r
def uptoBulkEntries {H : Type} : List (Lit × DataW H) → Nat
  | [] => 0
  | x :: r => uptoBulkEntry x + uptoBulkEntries r
def uptoBulkEntry {H : Type} : Lit × DataW H → Nat
  | (.string bytes, d) => bytes.length + uptoBulk d + 1
  | (_, d) => uptoBulk d + 1
 end
def uptoSmall : (H : Type) → List (DataW H) → Bool := fun _ ds => decide (uptoBulkAll ds ≤ 1048576)
def OpenSpec.upto (s : _root_.Go.ChangeSpec) : _root_.Go.OpenSpec := { _root_.Go.OpenSpec.ofChange s with cond := some uptoSmall }

/-- 'straightedgelaw10.NormsTell', WHERE WHAT IT READS IS OF BULK AT MOST 1048576: true; the input reads as it did. -/
def normsTellUptoRow : OpenClaim := { program := "ytbdlfaclakppgaa", sum := "dce26a1f7f42420dc1da58341cfb9027ca6c319181bf4f6ecbfb00cc3cf4950e", func := "straightedge/straightedgelaw10.NormsTell", spec := "normsTell", inPlace := ["math.Float64bits", "math.Float64frombits"], unfollowed := true, recurses := true, apart := false, narrowed := true }
def NormsTellUptoSaid : Prop := normsTellUptoRow.holds Try.pinned (OpenSpec.upto normsTellSpec)

/-- 'straightedgelaw10.NormsVectors', WHERE WHAT IT READS IS OF BULK AT MOST 1048576: true; the input reads as it did. -/
def normsVectorsUptoRow : OpenClaim := { program := "ytbdlfaclakppgaa", sum := "dce26a1f7f42420dc1da58341cfb9027ca6c319181bf4f6ecbfb00cc3cf4950e", func := "straightedge/straightedgelaw10.NormsVectors", spec := "normsVectors", inPlace := ["math.Float64bits", "math.Float64frombits"], unfollowed := true, recurses := true, apart := false, narrowed := true }
def NormsVectorsUptoSaid : Prop := normsVectorsUptoRow.holds Try.pinned (OpenSpec.upto normsVectorsSpec)

/-- 'straightedgelaw10.NormsTurn', WHERE WHAT IT READS IS OF BULK AT MOST 1048576: true; the input reads as it did. -/
def normsTurnUptoRow : OpenClaim := { program := "ytbdlfaclakppgaa", sum := "dce26a1f7f42420dc1da58341cfb9027ca6c319181bf4f6ecbfb00cc3cf4950e", func := "straightedge/straightedgelaw10.NormsTurn", spec := "normsTurn", inPlace := ["math.Float64bits", "math.Float64frombits"], unfollowed := true, recurses := true, apart := false, narrowed := true }
def NormsTurnUptoSaid : Prop := normsTurnUptoRow.holds Try.pinned (OpenSpec.upto normsTurnSpec)

end Rows
end Go.Proofs.Ytbdlfaclakppgaa
