/-
  No cell of these rows narrows 'for every input' (looked for: loops, veiled, ifaces, maps, wideKeys, modest, calm, conditions, laid).
  DERIVED. THE GIVEN ROWS OF THIS SEAT. 4 by the template 'for every input the law returns true; each argument reads behind the call as it read before'; 0 by the template 'total and deterministic' (their statements: YtajmdjeidpfgkaaTotals.lean).
  GIVEN WITH THE SEED: the statements are not yours to turn. If you find one false, say at which input.
  Laid BY PROGRAM, IN A SANDBOX (cutbox-rows.mjs): the forced cells as the released guide's own fill.sh prints them over the translation a0badf94221cbfc7… (all of the seat's roots in one cut). By AI agents, Wed Nov 11 2026. No macro, syntax, notation, axiom, sorry.
-/
import Derived.Test.YtajmdjeidpfgkaaChecked
import GoSem.Claim
import GoSem.ClaimJoined
import GoSem.ClaimMapViews
import Derived.JoinedTies
import Derived.KernelRfl
namespace Go.Proofs.Ytajmdjeidpfgkaa
/- THE CELL 'sum', in the pinned program and in every row, IS THE sha256 OF THE DUMP (.gsa) THAT YtajmdjeidpfgkaaProg.lean LOADS. Nothing in Lean hashes anything: it is a label: what it is worth is what the hold of that sum in a sandbox is worth. -/
noncomputable def Try.pinned : Pinned := { name := "ytajmdjeidpfgkaa", sum := "a0badf94221cbfc7a20a04f22d63a8f12e524cd056f8edcc630e4821a51df7ed", checked := Try.checked }
namespace Rows
def none {H : Type} : Left H := { results := [], args := [] }

/-- 'straightedgelaw03.ViewRight': WHATEVER THE INPUT: true; the input reads as it did. -/
def viewRightSpec : ChangeSpec := { name := "viewRight", fn := fun _ => fun
  | [d1, d2] => { results := [.lit (.bool true)], args := [d1, d2] }
  | _ => none }
def viewRightRow : OpenClaim := { program := "ytajmdjeidpfgkaa", sum := "a0badf94221cbfc7a20a04f22d63a8f12e524cd056f8edcc630e4821a51df7ed", func := "straightedge/straightedgelaw03.ViewRight", spec := "viewRight", inPlace := ["math.Float64bits"], apart := false }
def ViewRightSaid : Prop := viewRightRow.holds Try.pinned (OpenSpec.ofChange viewRightSpec)

/-- ITS FALSE NEIGHBOUR: 'it returns false'. Refute it at one input. -/
def viewRightWrong : ChangeSpec := { name := "viewRight", fn := fun _ => fun
  | [d1, d2] => { results := [.lit (.bool false)], args := [d1, d2] }
  | _ => none }
def ViewRightWrongFalsely : Prop := viewRightRow.holds Try.pinned (OpenSpec.ofChange viewRightWrong)

/-- 'straightedgelaw03.ViewSets': WHATEVER THE INPUT: true; the input reads as it did. -/
def viewSetsSpec : ChangeSpec := { name := "viewSets", fn := fun _ => fun
  | [d1, d2, d3, d4] => { results := [.lit (.bool true)], args := [d1, d2, d3, d4] }
  | _ => none }
def viewSetsRow : OpenClaim := { program := "ytajmdjeidpfgkaa", sum := "a0badf94221cbfc7a20a04f22d63a8f12e524cd056f8edcc630e4821a51df7ed", func := "straightedge/straightedgelaw03.ViewSets", spec := "viewSets", inPlace := ["math.Float64bits"], apart := false }
def ViewSetsSaid : Prop := viewSetsRow.holds Try.pinned (OpenSpec.ofChange viewSetsSpec)

/-- ITS FALSE NEIGHBOUR: 'it returns false'. Refute it at one input. -/
def viewSetsWrong : ChangeSpec := { name := "viewSets", fn := fun _ => fun
  | [d1, d2, d3, d4] => { results := [.lit (.bool false)], args := [d1, d2, d3, d4] }
  | _ => none }
def ViewSetsWrongFalsely : Prop := viewSetsRow.holds Try.pinned (OpenSpec.ofChange viewSetsWrong)

/-- 'straightedgelaw03.ViewMeets': WHATEVER THE INPUT: true; the input reads as it did. -/
def viewMeetsSpec : ChangeSpec := { name := "viewMeets", fn := fun _ => fun
  | [d1, d2] => { results := [.lit (.bool true)], args := [d1, d2] }
  | _ => none }
def viewMeetsRow : OpenClaim := { program := "ytajmdjeidpfgkaa", sum := "a0badf94221cbfc7a20a04f22d63a8f12e524cd056f8edcc630e4821a51df7ed", func := "straightedge/straightedgelaw03.ViewMeets", spec := "viewMeets", inPlace := ["math.Float64bits"], apart := false }
def ViewMeetsSaid : Prop := viewMeetsRow.holds Try.pinned (OpenSpec.ofChange viewMeetsSpec)

/-- ITS FALSE NEIGHBOUR: 'it returns false'. Refute it at one input. -/
def viewMeetsWrong : ChangeSpec := { name := "viewMeets", fn := fun _ => fun
  | [d1, d2] => { results := [.lit (.bool false)], args := [d1, d2] }
  | _ => none }
def ViewMeetsWrongFalsely : Prop := viewMeetsRow.holds Try.pinned (OpenSpec.ofChange viewMeetsWrong)

/-- 'straightedgelaw03.ViewDense': WHATEVER THE INPUT: true; the input reads as it did. -/
def viewDenseSpec : ChangeSpec := { name := "viewDense", fn := fun _ => fun
  | [d1, d2, d3] => { results := [.lit (.bool true)], args := [d1, d2, d3] }
  | _ => none }
def viewDenseRow : OpenClaim := { program := "ytajmdjeidpfgkaa", sum := "a0badf94221cbfc7a20a04f22d63a8f12e524cd056f8edcc630e4821a51df7ed", func := "straightedge/straightedgelaw03.ViewDense", spec := "viewDense", inPlace := ["math.Float64bits"], apart := false }
def ViewDenseSaid : Prop := viewDenseRow.holds Try.pinned (OpenSpec.ofChange viewDenseSpec)

/-- ITS FALSE NEIGHBOUR: 'it returns false'. Refute it at one input. -/
def viewDenseWrong : ChangeSpec := { name := "viewDense", fn := fun _ => fun
  | [d1, d2, d3] => { results := [.lit (.bool false)], args := [d1, d2, d3] }
  | _ => none }
def ViewDenseWrongFalsely : Prop := viewDenseRow.holds Try.pinned (OpenSpec.ofChange viewDenseWrong)

/- THE SECOND FORM. 'bulk': how many values and letters a reading holds, each counted each time it is reached (what is shared counts as often as it is met; a slice's spare places count too). A statement '..UptoSaid' is the law's where the arguments, and the package variables that the reading takes, are together of bulk at most 1048576: NARROWER than '..Said'. Prove '..Said' where nothing that the law and all that it calls make is longer than what came in: it says more and counts as full. Else prove '..UptoSaid'. A law counts once. -/
mutual
def uptoBulk {H : Type} : DataW H → Nat
  | .lit (.string bytes) => bytes.length + 1
  | .lit _ => 1
  | .nil => 1
  | .ptr d => uptoBulk d + 1
  | .slice elems spare => uptoBulkAll elems + uptoBulkAll spare + 1
  | .agg parts => uptoBulkAll parts + 1
  | .iface _ d => uptoBulk d + 1
  | .map entries => uptoBulkEntries entries + 1
  | .held _ => 1
def uptoBulkAll {H : Type} : List (DataW H) → Nat
  | [] => 0
  | d :: r => uptoBulk d + uptoBulkAll r
def uptoBulkEntries {H : Type} : List (Lit × DataW H) → Nat
  | [] => 0
  | x :: r => uptoBulkEntry x + uptoBulkEntries r
def uptoBulkEntry {H : Type} : Lit × DataW H → Nat
  | (.string bytes, d) => bytes.length + uptoBulk d + 1
  | (_, d) => uptoBulk d + 1
 end
def uptoSmall : (H : Type) → List (DataW H) → Bool := fun _ ds => decide (uptoBulkAll ds ≤ 1048576)
def OpenSpec.upto (s : _root_.Go.ChangeSpec) : _root_.Go.OpenSpec := { _root_.Go.OpenSpec.ofChange s with cond := some uptoSmall }

/-- 'straightedgelaw03.ViewRight', WHERE WHAT IT READS IS OF BULK AT MOST 1048576: true; the input reads as it did. -/
def viewRightUptoRow : OpenClaim := { program := "ytajmdjeidpfgkaa", sum := "a0badf94221cbfc7a20a04f22d63a8f12e524cd056f8edcc630e4821a51df7ed", func := "straightedge/straightedgelaw03.ViewRight", spec := "viewRight", inPlace := ["math.Float64bits"], apart := false, narrowed := true }
def ViewRightUptoSaid : Prop := viewRightUptoRow.holds Try.pinned (OpenSpec.upto viewRightSpec)

/-- 'straightedgelaw03.ViewSets', WHERE WHAT IT READS IS OF BULK AT MOST 1048576: true; the input reads as it did. -/
def viewSetsUptoRow : OpenClaim := { program := "ytajmdjeidpfgkaa", sum := "a0badf94221cbfc7a20a04f22d63a8f12e524cd056f8edcc630e4821a51df7ed", func := "straightedge/straightedgelaw03.ViewSets", spec := "viewSets", inPlace := ["math.Float64bits"], apart := false, narrowed := true }
def ViewSetsUptoSaid : Prop := viewSetsUptoRow.holds Try.pinned (OpenSpec.upto viewSetsSpec)

/-- 'straightedgelaw03.ViewMeets', WHERE WHAT IT READS IS OF BULK AT MOST 1048576: true; the input reads as it did. -/
def viewMeetsUptoRow : OpenClaim := { program := "ytajmdjeidpfgkaa", sum := "a0badf94221cbfc7a20a04f22d63a8f12e524cd056f8edcc630e4821a51df7ed", func := "straightedge/straightedgelaw03.ViewMeets", spec := "viewMeets", inPlace := ["math.Float64bits"], apart := false, narrowed := true }
def ViewMeetsUptoSaid : Prop := viewMeetsUptoRow.holds Try.pinned (OpenSpec.upto viewMeetsSpec)

/-- 'straightedgelaw03.ViewDense', WHERE WHAT IT READS IS OF BULK AT MOST 1048576: true; the input reads as it did. -/
def viewDenseUptoRow : OpenClaim := { program := "ytajmdjeidpfgkaa", sum := "a0badf94221cbfc7a20a04f22d63a8f12e524cd056f8edcc630e4821a51df7ed", func := "straightedge/straightedgelaw03.ViewDense", spec := "viewDense", inPlace := ["math.Float64bits"], apart := false, narrowed := true }
def ViewDenseUptoSaid : Prop := viewDenseUptoRow.holds Try.pinned (OpenSpec.upto viewDenseSpec)

end Rows
end Go.Proofs.Ytajmdjeidpfgkaa
