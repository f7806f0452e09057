/-
  No cell of these rows narrows 'for every input' (looked for: loops, veiled, ifaces, maps, wideKeys, modest, calm, conditions, laid).
  DERIVED. THE GIVEN ROWS OF THIS SEAT. 3 by the template 'for every input the law returns true; each argument reads behind the call as it read before'; 0 by the template 'total and deterministic' (their statements: YtbjopdnfjjcpoaaTotals.lean).
  GIVEN WITH THE SEED: the statements are not yours to turn. If you find one false, say at which input.
  Laid BY PROGRAM, IN A SANDBOX (cutbox-rows.mjs): the forced cells as the released guide's own fill.sh prints them over the translation fd11300ba804d884… (all of the seat's roots in one cut). By AI agents, Wed Nov 11 2026. No macro, syntax, notation, axiom, sorry.
-/
import Derived.Test.YtbjopdnfjjcpoaaChecked
import GoSem.Claim
import GoSem.ClaimJoined
import GoSem.ClaimMapViews
import Derived.JoinedTies
import Derived.KernelRfl
namespace Go.Proofs.Ytbjopdnfjjcpoaa
/- THE CELL 'sum', in the pinned program and in every row, IS THE sha256 OF THE DUMP (.gsa) THAT YtbjopdnfjjcpoaaProg.lean LOADS. Nothing in Lean hashes anything: it is a label: what it is worth is what the hold of that sum in a sandbox is worth. -/
noncomputable def Try.pinned : Pinned := { name := "ytbjopdnfjjcpoaa", sum := "fd11300ba804d8845b39732e1e25e74580203a39587a3a43a2d9986231c147de", checked := Try.checked }
namespace Rows
def none {H : Type} : Left H := { results := [], args := [] }

/-- 'straightedgelaw12.PackTells': WHATEVER THE INPUT: true; the input reads as it did. -/
def packTellsSpec : ChangeSpec := { name := "packTells", fn := fun _ => fun
  | [d1, d2] => { results := [.lit (.bool true)], args := [d1, d2] }
  | _ => none }
def packTellsRow : OpenClaim := { program := "ytbjopdnfjjcpoaa", sum := "fd11300ba804d8845b39732e1e25e74580203a39587a3a43a2d9986231c147de", func := "straightedge/straightedgelaw12.PackTells", spec := "packTells", inPlace := ["math.Float64bits"], recurses := true, apart := false }
def PackTellsSaid : Prop := packTellsRow.holds Try.pinned (OpenSpec.ofChange packTellsSpec)

/-- ITS FALSE NEIGHBOUR: 'it returns false'. Refute it at one input. -/
def packTellsWrong : ChangeSpec := { name := "packTells", fn := fun _ => fun
  | [d1, d2] => { results := [.lit (.bool false)], args := [d1, d2] }
  | _ => none }
def PackTellsWrongFalsely : Prop := packTellsRow.holds Try.pinned (OpenSpec.ofChange packTellsWrong)

/-- 'straightedgelaw12.PackRaw': WHATEVER THE INPUT: true; the input reads as it did. -/
def packRawSpec : ChangeSpec := { name := "packRaw", fn := fun _ => fun
  | [d1, d2, d3, d4, d5, d6] => { results := [.lit (.bool true)], args := [d1, d2, d3, d4, d5, d6] }
  | _ => none }
def packRawRow : OpenClaim := { program := "ytbjopdnfjjcpoaa", sum := "fd11300ba804d8845b39732e1e25e74580203a39587a3a43a2d9986231c147de", func := "straightedge/straightedgelaw12.PackRaw", spec := "packRaw", inPlace := ["math.Float64bits"], recurses := true, apart := false }
def PackRawSaid : Prop := packRawRow.holds Try.pinned (OpenSpec.ofChange packRawSpec)

/-- ITS FALSE NEIGHBOUR: 'it returns false'. Refute it at one input. -/
def packRawWrong : ChangeSpec := { name := "packRaw", fn := fun _ => fun
  | [d1, d2, d3, d4, d5, d6] => { results := [.lit (.bool false)], args := [d1, d2, d3, d4, d5, d6] }
  | _ => none }
def PackRawWrongFalsely : Prop := packRawRow.holds Try.pinned (OpenSpec.ofChange packRawWrong)

/-- 'straightedgelaw12.PackBlocks': WHATEVER THE INPUT: true; the input reads as it did. -/
def packBlocksSpec : ChangeSpec := { name := "packBlocks", fn := fun _ => fun
  | [d1, d2, d3] => { results := [.lit (.bool true)], args := [d1, d2, d3] }
  | _ => none }
def packBlocksRow : OpenClaim := { program := "ytbjopdnfjjcpoaa", sum := "fd11300ba804d8845b39732e1e25e74580203a39587a3a43a2d9986231c147de", func := "straightedge/straightedgelaw12.PackBlocks", spec := "packBlocks", recurses := true, apart := false }
def PackBlocksSaid : Prop := packBlocksRow.holds Try.pinned (OpenSpec.ofChange packBlocksSpec)

/-- ITS FALSE NEIGHBOUR: 'it returns false'. Refute it at one input. -/
def packBlocksWrong : ChangeSpec := { name := "packBlocks", fn := fun _ => fun
  | [d1, d2, d3] => { results := [.lit (.bool false)], args := [d1, d2, d3] }
  | _ => none }
def PackBlocksWrongFalsely : Prop := packBlocksRow.holds Try.pinned (OpenSpec.ofChange packBlocksWrong)

/- THE SECOND FORM. 'bulk': how many values and letters a reading holds, each counted each time it is reached (what is shared counts as often as it is met; a slice's spare places count too). A statement '..UptoSaid' is the law's where the arguments, and the package variables that the reading takes, are together of bulk at most 1048576: NARROWER than '..Said'. Prove '..Said' where nothing that the law and all that it calls make is longer than what came in: it says more and counts as full. Else prove '..UptoSaid'. A law counts once. -/
mutual
def uptoBulk {H : Type} : DataW H → Nat
  | .lit (.string bytes) => bytes.length + 1
  | .lit _ => 1
  | .nil => 1
  | .ptr d => uptoBulk d + 1
  | .slice elems spare => uptoBulkAll elems + uptoBulkAll spare + 1
  | .agg parts => uptoBulkAll parts + 1
  | .iface _ d => uptoBulk d + 1
  | .map entries => uptoBulkEntries entries + 1
  | .held _ => 1
def uptoBulkAll {H : Type} : List (DataW H) → Nat
  | [] => 0
  | d :: r => uptoBulk d + uptoBulkAll r
def uptoBulkEntries {H : Type} : List (Lit × DataW H) → Nat
  | [] => 0
  | x :: r => uptoBulkEntry x + uptoBulkEntries r
def uptoBulkEntry {H : Type} : Lit × DataW H → Nat
  | (.string bytes, d) => bytes.length + uptoBulk d + 1
  | (_, d) => uptoBulk d + 1
 end
def uptoSmall : (H : Type) → List (DataW H) → Bool := fun _ ds => decide (uptoBulkAll ds ≤ 1048576)
def OpenSpec.upto (s : _root_.Go.ChangeSpec) : _root_.Go.OpenSpec := { _root_.Go.OpenSpec.ofChange s with cond := some uptoSmall }

/-- 'straightedgelaw12.PackTells', WHERE WHAT IT READS IS OF BULK AT MOST 1048576: true; the input reads as it did. -/
def packTellsUptoRow : OpenClaim := { program := "ytbjopdnfjjcpoaa", sum := "fd11300ba804d8845b39732e1e25e74580203a39587a3a43a2d9986231c147de", func := "straightedge/straightedgelaw12.PackTells", spec := "packTells", inPlace := ["math.Float64bits"], recurses := true, apart := false, narrowed := true }
def PackTellsUptoSaid : Prop := packTellsUptoRow.holds Try.pinned (OpenSpec.upto packTellsSpec)

/-- 'straightedgelaw12.PackRaw', WHERE WHAT IT READS IS OF BULK AT MOST 1048576: true; the input reads as it did. -/
def packRawUptoRow : OpenClaim := { program := "ytbjopdnfjjcpoaa", sum := "fd11300ba804d8845b39732e1e25e74580203a39587a3a43a2d9986231c147de", func := "straightedge/straightedgelaw12.PackRaw", spec := "packRaw", inPlace := ["math.Float64bits"], recurses := true, apart := false, narrowed := true }
def PackRawUptoSaid : Prop := packRawUptoRow.holds Try.pinned (OpenSpec.upto packRawSpec)

/-- 'straightedgelaw12.PackBlocks', WHERE WHAT IT READS IS OF BULK AT MOST 1048576: true; the input reads as it did. -/
def packBlocksUptoRow : OpenClaim := { program := "ytbjopdnfjjcpoaa", sum := "fd11300ba804d8845b39732e1e25e74580203a39587a3a43a2d9986231c147de", func := "straightedge/straightedgelaw12.PackBlocks", spec := "packBlocks", recurses := true, apart := false, narrowed := true }
def PackBlocksUptoSaid : Prop := packBlocksUptoRow.holds Try.pinned (OpenSpec.upto packBlocksSpec)

end Rows
end Go.Proofs.Ytbjopdnfjjcpoaa
