/-
  No cell of these rows narrows 'for every input' (looked for: loops, veiled, ifaces, maps, wideKeys, modest, calm, conditions, laid).
  DERIVED. THE GIVEN ROWS OF THIS SEAT. 5 by the template 'for every input the law returns true; each argument reads behind the call as it read before'; 0 by the template 'total and deterministic' (their statements: YtjjneiidggcfdaaTotals.lean).
  GIVEN WITH THE SEED: the statements are not yours to turn. If you find one false, say at which input.
  Laid BY PROGRAM, IN A SANDBOX (cutbox-rows.mjs): the forced cells as the released guide's own fill.sh prints them over the translation 3619df4618936133… (all of the seat's roots in one cut). By AI agents, Wed Nov 11 2026. No macro, syntax, notation, axiom, sorry.
-/
import Derived.Test.YtjjneiidggcfdaaChecked
import GoSem.Claim
import GoSem.ClaimJoined
import GoSem.ClaimMapViews
import Derived.JoinedTies
import Derived.KernelRfl
namespace Go.Proofs.Ytjjneiidggcfdaa
/- THE CELL 'sum', in the pinned program and in every row, IS THE sha256 OF THE DUMP (.gsa) THAT YtjjneiidggcfdaaProg.lean LOADS. Nothing in Lean hashes anything: it is a label: what it is worth is what the hold of that sum in a sandbox is worth. -/
noncomputable def Try.pinned : Pinned := { name := "ytjjneiidggcfdaa", sum := "3619df4618936133e62946692ca162be66d4d4edcf6f30073c009b20776adaec", checked := Try.checked }
namespace Rows
def none {H : Type} : Left H := { results := [], args := [] }

/-- 'straightedgelaw05.SumsClose': WHATEVER THE INPUT: true; the input reads as it did. -/
def sumsCloseSpec : ChangeSpec := { name := "sumsClose", fn := fun _ => fun
  | [d1, d2] => { results := [.lit (.bool true)], args := [d1, d2] }
  | _ => none }
def sumsCloseRow : OpenClaim := { program := "ytjjneiidggcfdaa", sum := "3619df4618936133e62946692ca162be66d4d4edcf6f30073c009b20776adaec", func := "straightedge/straightedgelaw05.SumsClose", spec := "sumsClose", inPlace := ["math.Float64bits", "math.Float64frombits"], apart := false }
def SumsCloseSaid : Prop := sumsCloseRow.holds Try.pinned (OpenSpec.ofChange sumsCloseSpec)

/-- ITS FALSE NEIGHBOUR: 'it returns false'. Refute it at one input. -/
def sumsCloseWrong : ChangeSpec := { name := "sumsClose", fn := fun _ => fun
  | [d1, d2] => { results := [.lit (.bool false)], args := [d1, d2] }
  | _ => none }
def SumsCloseWrongFalsely : Prop := sumsCloseRow.holds Try.pinned (OpenSpec.ofChange sumsCloseWrong)

/-- 'straightedgelaw06.AxesAdd': WHATEVER THE INPUT: true; the input reads as it did. -/
def axesAddSpec : ChangeSpec := { name := "axesAdd", fn := fun _ => fun
  | [d1, d2, d3, d4] => { results := [.lit (.bool true)], args := [d1, d2, d3, d4] }
  | _ => none }
def axesAddRow : OpenClaim := { program := "ytjjneiidggcfdaa", sum := "3619df4618936133e62946692ca162be66d4d4edcf6f30073c009b20776adaec", func := "straightedge/straightedgelaw06.AxesAdd", spec := "axesAdd", inPlace := ["math.Float64bits"], unfollowed := true, recurses := true, apart := false }
def AxesAddSaid : Prop := axesAddRow.holds Try.pinned (OpenSpec.ofChange axesAddSpec)

/-- ITS FALSE NEIGHBOUR: 'it returns false'. Refute it at one input. -/
def axesAddWrong : ChangeSpec := { name := "axesAdd", fn := fun _ => fun
  | [d1, d2, d3, d4] => { results := [.lit (.bool false)], args := [d1, d2, d3, d4] }
  | _ => none }
def AxesAddWrongFalsely : Prop := axesAddRow.holds Try.pinned (OpenSpec.ofChange axesAddWrong)

/-- 'straightedgelaw06.AxesScale': WHATEVER THE INPUT: true; the input reads as it did. -/
def axesScaleSpec : ChangeSpec := { name := "axesScale", fn := fun _ => fun
  | [d1, d2, d3] => { results := [.lit (.bool true)], args := [d1, d2, d3] }
  | _ => none }
def axesScaleRow : OpenClaim := { program := "ytjjneiidggcfdaa", sum := "3619df4618936133e62946692ca162be66d4d4edcf6f30073c009b20776adaec", func := "straightedge/straightedgelaw06.AxesScale", spec := "axesScale", inPlace := ["math.Float64bits", "math.Float64frombits"], unfollowed := true, recurses := true, apart := false }
def AxesScaleSaid : Prop := axesScaleRow.holds Try.pinned (OpenSpec.ofChange axesScaleSpec)

/-- ITS FALSE NEIGHBOUR: 'it returns false'. Refute it at one input. -/
def axesScaleWrong : ChangeSpec := { name := "axesScale", fn := fun _ => fun
  | [d1, d2, d3] => { results := [.lit (.bool false)], args := [d1, d2, d3] }
  | _ => none }
def AxesScaleWrongFalsely : Prop := axesScaleRow.holds Try.pinned (OpenSpec.ofChange axesScaleWrong)

/-- 'straightedgelaw06.AxesClose': WHATEVER THE INPUT: true; the input reads as it did. -/
def axesCloseSpec : ChangeSpec := { name := "axesClose", fn := fun _ => fun
  | [d1, d2, d3] => { results := [.lit (.bool true)], args := [d1, d2, d3] }
  | _ => none }
def axesCloseRow : OpenClaim := { program := "ytjjneiidggcfdaa", sum := "3619df4618936133e62946692ca162be66d4d4edcf6f30073c009b20776adaec", func := "straightedge/straightedgelaw06.AxesClose", spec := "axesClose", inPlace := ["math.Float64bits"], unfollowed := true, recurses := true, apart := false }
def AxesCloseSaid : Prop := axesCloseRow.holds Try.pinned (OpenSpec.ofChange axesCloseSpec)

/-- ITS FALSE NEIGHBOUR: 'it returns false'. Refute it at one input. -/
def axesCloseWrong : ChangeSpec := { name := "axesClose", fn := fun _ => fun
  | [d1, d2, d3] => { results := [.lit (.bool false)], args := [d1, d2, d3] }
  | _ => none }
def AxesCloseWrongFalsely : Prop := axesCloseRow.holds Try.pinned (OpenSpec.ofChange axesCloseWrong)

/-- 'straightedgelaw06.AxesBack': WHATEVER THE INPUT: true; the input reads as it did. -/
def axesBackSpec : ChangeSpec := { name := "axesBack", fn := fun _ => fun
  | [d1, d2] => { results := [.lit (.bool true)], args := [d1, d2] }
  | _ => none }
def axesBackRow : OpenClaim := { program := "ytjjneiidggcfdaa", sum := "3619df4618936133e62946692ca162be66d4d4edcf6f30073c009b20776adaec", func := "straightedge/straightedgelaw06.AxesBack", spec := "axesBack", inPlace := ["math.Float64bits", "math.Float64frombits"], unfollowed := true, recurses := true, apart := false }
def AxesBackSaid : Prop := axesBackRow.holds Try.pinned (OpenSpec.ofChange axesBackSpec)

/-- ITS FALSE NEIGHBOUR: 'it returns false'. Refute it at one input. -/
def axesBackWrong : ChangeSpec := { name := "axesBack", fn := fun _ => fun
  | [d1, d2] => { results := [.lit (.bool false)], args := [d1, d2] }
  | _ => none }
def AxesBackWrongFalsely : Prop := axesBackRow.holds Try.pinned (OpenSpec.ofChange axesBackWrong)

/- THE SECOND FORM. 'bulk': how many values and letters a reading holds, each counted each time it is reached (what is shared counts as often as it is met; a slice's spare places count too). A statement '..UptoSaid' is the law's where the arguments, and the package variables that the reading takes, are together of bulk at most 1048576: NARROWER than '..Said'. Prove '..Said' where nothing that the law and all that it calls make is longer than what came in: it says more and counts as full. Else prove '..UptoSaid'. A law counts once. -/
mutual
def uptoBulk {H : Type} : DataW H → Nat
  | .lit (.string bytes) => bytes.length + 1
  | .lit _ => 1
  | .nil => 1
  | .ptr d => uptoBulk d + 1
  | .slice elems spare => uptoBulkAll elems + uptoBulkAll spare + 1
  | .agg parts => uptoBulkAll parts + 1
  | .iface _ d => uptoBulk d + 1
  | .map entries => uptoBulkEntries entries + 1
  | .held _ => 1
def uptoBulkAll {H : Type} : List (DataW H) → Nat
  | [] => 0
  | d :: r => uptoBulk d + uptoBulkAll r
def uptoBulkEntries {H : Type} : List (Lit × DataW H) → Nat
  | [] => 0
  | x :: r => uptoBulkEntry x + uptoBulkEntries r
def uptoBulkEntry {H : Type} : Lit × DataW H → Nat
  | (.string bytes, d) => bytes.length + uptoBulk d + 1
  | (_, d) => uptoBulk d + 1
 end
def uptoSmall : (H : Type) → List (DataW H) → Bool := fun _ ds => decide (uptoBulkAll ds ≤ 1048576)
def OpenSpec.upto (s : _root_.Go.ChangeSpec) : _root_.Go.OpenSpec := { _root_.Go.OpenSpec.ofChange s with cond := some uptoSmall }

/-- 'straightedgelaw05.SumsClose', WHERE WHAT IT READS IS OF BULK AT MOST 1048576: true; the input reads as it did. -/
def sumsCloseUptoRow : OpenClaim := { program := "ytjjneiidggcfdaa", sum := "3619df4618936133e62946692ca162be66d4d4edcf6f30073c009b20776adaec", func := "straightedge/straightedgelaw05.SumsClose", spec := "sumsClose", inPlace := ["math.Float64bits", "math.Float64frombits"], apart := false, narrowed := true }
def SumsCloseUptoSaid : Prop := sumsCloseUptoRow.holds Try.pinned (OpenSpec.upto sumsCloseSpec)

/-- 'straightedgelaw06.AxesAdd', WHERE WHAT IT READS IS OF BULK AT MOST 1048576: true; the input reads as it did. -/
def axesAddUptoRow : OpenClaim := { program := "ytjjneiidggcfdaa", sum := "3619df4618936133e62946692ca162be66d4d4edcf6f30073c009b20776adaec", func := "straightedge/straightedgelaw06.AxesAdd", spec := "axesAdd", inPlace := ["math.Float64bits"], unfollowed := true, recurses := true, apart := false, narrowed := true }
def AxesAddUptoSaid : Prop := axesAddUptoRow.holds Try.pinned (OpenSpec.upto axesAddSpec)

/-- 'straightedgelaw06.AxesScale', WHERE WHAT IT READS IS OF BULK AT MOST 1048576: true; the input reads as it did. -/
def axesScaleUptoRow : OpenClaim := { program := "ytjjneiidggcfdaa", sum := "3619df4618936133e62946692ca162be66d4d4edcf6f30073c009b20776adaec", func := "straightedge/straightedgelaw06.AxesScale", spec := "axesScale", inPlace := ["math.Float64bits", "math.Float64frombits"], unfollowed := true, recurses := true, apart := false, narrowed := true }
def AxesScaleUptoSaid : Prop := axesScaleUptoRow.holds Try.pinned (OpenSpec.upto axesScaleSpec)

/-- 'straightedgelaw06.AxesClose', WHERE WHAT IT READS IS OF BULK AT MOST 1048576: true; the input reads as it did. -/
def axesCloseUptoRow : OpenClaim := { program := "ytjjneiidggcfdaa", sum := "3619df4618936133e62946692ca162be66d4d4edcf6f30073c009b20776adaec", func := "straightedge/straightedgelaw06.AxesClose", spec := "axesClose", inPlace := ["math.Float64bits"], unfollowed := true, recurses := true, apart := false, narrowed := true }
def AxesCloseUptoSaid : Prop := axesCloseUptoRow.holds Try.pinned (OpenSpec.upto axesCloseSpec)

/-- 'straightedgelaw06.AxesBack', WHERE WHAT IT READS IS OF BULK AT MOST 1048576: true; the input reads as it did. -/
def axesBackUptoRow : OpenClaim := { program := "ytjjneiidggcfdaa", sum := "3619df4618936133e62946692ca162be66d4d4edcf6f30073c009b20776adaec", func := "straightedge/straightedgelaw06.AxesBack", spec := "axesBack", inPlace := ["math.Float64bits", "math.Float64frombits"], unfollowed := true, recurses := true, apart := false, narrowed := true }
def AxesBackUptoSaid : Prop := axesBackUptoRow.holds Try.pinned (OpenSpec.upto axesBackSpec)

end Rows
end Go.Proofs.Ytjjneiidggcfdaa
