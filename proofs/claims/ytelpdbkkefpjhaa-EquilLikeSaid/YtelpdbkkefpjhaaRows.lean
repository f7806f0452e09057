/-
  No cell of these rows narrows 'for every input' (looked for: loops, veiled, ifaces, maps, wideKeys, modest, calm, conditions, laid).
  DERIVED. THE GIVEN ROWS OF THIS SEAT. 3 by the template 'for every input the law returns true; each argument reads behind the call as it read before'; 0 by the template 'total and deterministic' (their statements: YtelpdbkkefpjhaaTotals.lean).
  GIVEN WITH THE SEED: the statements are not yours to turn. If you find one false, say at which input.
  Laid BY PROGRAM, IN A SANDBOX (cutbox-rows.mjs): the forced cells as the released guide's own fill.sh prints them over the translation 0cc3f7b0bf5e5773… (all of the seat's roots in one cut). By AI agents, Wed Nov 11 2026. No macro, syntax, notation, axiom, sorry.
-/
import Derived.Test.YtelpdbkkefpjhaaChecked
import GoSem.Claim
import GoSem.ClaimJoined
import GoSem.ClaimMapViews
import Derived.JoinedTies
import Derived.KernelRfl
namespace Go.Proofs.Ytelpdbkkefpjhaa
/- THE CELL 'sum', in the pinned program and in every row, IS THE sha256 OF THE DUMP (.gsa) THAT YtelpdbkkefpjhaaProg.lean LOADS. Nothing in Lean hashes anything: it is a label: what it is worth is what the hold of that sum in a sandbox is worth. -/
noncomputable def Try.pinned : Pinned := { name := "ytelpdbkkefpjhaa", sum := "0cc3f7b0bf5e57736819fd4b897b4c7668db486fa47c180575ac26468e43840b", checked := Try.checked }
namespace Rows
def none {H : Type} : Left H := { results := [], args := [] }

/-- 'straightedgelaw15.EquilFactors': WHATEVER THE INPUT: true; the input reads as it did. -/
def equilFactorsSpec : ChangeSpec := { name := "equilFactors", fn := fun _ => fun
  | [d] => { results := [.lit (.bool true)], args := [d] }
  | _ => none }
def equilFactorsRow : OpenClaim := { program := "ytelpdbkkefpjhaa", sum := "0cc3f7b0bf5e57736819fd4b897b4c7668db486fa47c180575ac26468e43840b", func := "straightedge/straightedgelaw15.EquilFactors", spec := "equilFactors", inPlace := ["math.Float64bits"], unfollowed := true, recurses := true, apart := false }
def EquilFactorsSaid : Prop := equilFactorsRow.holds Try.pinned (OpenSpec.ofChange equilFactorsSpec)

/-- ITS FALSE NEIGHBOUR: 'it returns false'. Refute it at one input. -/
def equilFactorsWrong : ChangeSpec := { name := "equilFactors", fn := fun _ => fun
  | [d] => { results := [.lit (.bool false)], args := [d] }
  | _ => none }
def EquilFactorsWrongFalsely : Prop := equilFactorsRow.holds Try.pinned (OpenSpec.ofChange equilFactorsWrong)

/-- 'straightedgelaw15.EquilScales': WHATEVER THE INPUT: true; the input reads as it did. -/
def equilScalesSpec : ChangeSpec := { name := "equilScales", fn := fun _ => fun
  | [d1, d2, d3] => { results := [.lit (.bool true)], args := [d1, d2, d3] }
  | _ => none }
def equilScalesRow : OpenClaim := { program := "ytelpdbkkefpjhaa", sum := "0cc3f7b0bf5e57736819fd4b897b4c7668db486fa47c180575ac26468e43840b", func := "straightedge/straightedgelaw15.EquilScales", spec := "equilScales", inPlace := ["math.Float64bits", "math.Float64frombits"], unfollowed := true, recurses := true, apart := false }
def EquilScalesSaid : Prop := equilScalesRow.holds Try.pinned (OpenSpec.ofChange equilScalesSpec)

/-- ITS FALSE NEIGHBOUR: 'it returns false'. Refute it at one input. -/
def equilScalesWrong : ChangeSpec := { name := "equilScales", fn := fun _ => fun
  | [d1, d2, d3] => { results := [.lit (.bool false)], args := [d1, d2, d3] }
  | _ => none }
def EquilScalesWrongFalsely : Prop := equilScalesRow.holds Try.pinned (OpenSpec.ofChange equilScalesWrong)

/-- 'straightedgelaw15.EquilLike': WHATEVER THE INPUT: true; the input reads as it did. -/
def equilLikeSpec : ChangeSpec := { name := "equilLike", fn := fun _ => fun
  | [d] => { results := [.lit (.bool true)], args := [d] }
  | _ => none }
def equilLikeRow : OpenClaim := { program := "ytelpdbkkefpjhaa", sum := "0cc3f7b0bf5e57736819fd4b897b4c7668db486fa47c180575ac26468e43840b", func := "straightedge/straightedgelaw15.EquilLike", spec := "equilLike", inPlace := ["math.Float64bits", "math.Float64frombits"], unfollowed := true, recurses := true, apart := false }
def EquilLikeSaid : Prop := equilLikeRow.holds Try.pinned (OpenSpec.ofChange equilLikeSpec)

/-- ITS FALSE NEIGHBOUR: 'it returns false'. Refute it at one input. -/
def equilLikeWrong : ChangeSpec := { name := "equilLike", fn := fun _ => fun
  | [d] => { results := [.lit (.bool false)], args := [d] }
  | _ => none }
def EquilLikeWrongFalsely : Prop := equilLikeRow.holds Try.pinned (OpenSpec.ofChange equilLikeWrong)

/- THE SECOND FORM. 'bulk': how many values and letters a reading holds, each counted each time it is reached (what is shared counts as often as it is met; a slice's spare places count too). A statement '..UptoSaid' is the law's where the arguments, and the package variables that the reading takes, are together of bulk at most 1048576: NARROWER than '..Said'. Prove '..Said' where nothing that the law and all that it calls make is longer than what came in: it says more and counts as full. Else prove '..UptoSaid'. A law counts once. -/
mutual
def uptoBulk {H : Type} : DataW H → Nat
  | .lit (.string bytes) => bytes.length + 1
  | .lit _ => 1
  | .nil => 1
  | .ptr d => uptoBulk d + 1
  | .slice elems spare => uptoBulkAll elems + uptoBulkAll spare + 1
  | .agg parts => uptoBulkAll parts + 1
  | .iface _ d => uptoBulk d + 1
  | .map entries => uptoBulkEntries entries + 1
  | .held _ => 1
def uptoBulkAll {H : Type} : List (DataW H) → Nat
  | [] => 0
  | d :: r => uptoBulk d + uptoBulkAll r
def uptoBulkEntries {H : Type} : List (Lit × DataW H) → Nat
  | [] => 0
  | x :: r => uptoBulkEntry x + uptoBulkEntries r
def uptoBulkEntry {H : Type} : Lit × DataW H → Nat
  | (.string bytes, d) => bytes.length + uptoBulk d + 1
  | (_, d) => uptoBulk d + 1
 end
def uptoSmall : (H : Type) → List (DataW H) → Bool := fun _ ds => decide (uptoBulkAll ds ≤ 1048576)
def OpenSpec.upto (s : _root_.Go.ChangeSpec) : _root_.Go.OpenSpec := { _root_.Go.OpenSpec.ofChange s with cond := some uptoSmall }

/-- 'straightedgelaw15.EquilFactors', WHERE WHAT IT READS IS OF BULK AT MOST 1048576: true; the input reads as it did. -/
def equilFactorsUptoRow : OpenClaim := { program := "ytelpdbkkefpjhaa", sum := "0cc3f7b0bf5e57736819fd4b897b4c7668db486fa47c180575ac26468e43840b", func := "straightedge/straightedgelaw15.EquilFactors", spec := "equilFactors", inPlace := ["math.Float64bits"], unfollowed := true, recurses := true, apart := false, narrowed := true }
def EquilFactorsUptoSaid : Prop := equilFactorsUptoRow.holds Try.pinned (OpenSpec.upto equilFactorsSpec)

/-- 'straightedgelaw15.EquilScales', WHERE WHAT IT READS IS OF BULK AT MOST 1048576: true; the input reads as it did. -/
def equilScalesUptoRow : OpenClaim := { program := "ytelpdbkkefpjhaa", sum := "0cc3f7b0bf5e57736819fd4b897b4c7668db486fa47c180575ac26468e43840b", func := "straightedge/straightedgelaw15.EquilScales", spec := "equilScales", inPlace := ["math.Float64bits", "math.Float64frombits"], unfollowed := true, recurses := true, apart := false, narrowed := true }
def EquilScalesUptoSaid : Prop := equilScalesUptoRow.holds Try.pinned (OpenSpec.upto equilScalesSpec)

/-- 'straightedgelaw15.EquilLike', WHERE WHAT IT READS IS OF BULK AT MOST 1048576: true; the input reads as it did. -/
def equilLikeUptoRow : OpenClaim := { program := "ytelpdbkkefpjhaa", sum := "0cc3f7b0bf5e57736819fd4b897b4c7668db486fa47c180575ac26468e43840b", func := "straightedge/straightedgelaw15.EquilLike", spec := "equilLike", inPlace := ["math.Float64bits", "math.Float64frombits"], unfollowed := true, recurses := true, apart := false, narrowed := true }
def EquilLikeUptoSaid : Prop := equilLikeUptoRow.holds Try.pinned (OpenSpec.upto equilLikeSpec)

end Rows
end Go.Proofs.Ytelpdbkkefpjhaa
