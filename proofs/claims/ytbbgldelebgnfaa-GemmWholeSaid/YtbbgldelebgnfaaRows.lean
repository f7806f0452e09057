/-
  No cell of these rows narrows 'for every input' (looked for: loops, veiled, ifaces, maps, wideKeys, modest, calm, conditions, laid).
  DERIVED. THE GIVEN ROWS OF THIS SEAT. 3 by the template 'for every input the law returns true; each argument reads behind the call as it read before'; 0 by the template 'total and deterministic' (their statements: YtbbgldelebgnfaaTotals.lean).
  GIVEN WITH THE SEED: the statements are not yours to turn. If you find one false, say at which input.
  Laid BY PROGRAM, IN A SANDBOX (cutbox-rows.mjs): the forced cells as the released guide's own fill.sh prints them over the translation 7868c21210e9684e… (all of the seat's roots in one cut). By AI agents, Wed Nov 11 2026. No macro, syntax, notation, axiom, sorry.
-/
import Derived.Test.YtbbgldelebgnfaaChecked
import GoSem.Claim
import GoSem.ClaimJoined
import GoSem.ClaimMapViews
import Derived.JoinedTies
import Derived.KernelRfl
namespace Go.Proofs.Ytbbgldelebgnfaa
/- THE CELL 'sum', in the pinned program and in every row, IS THE sha256 OF THE DUMP (.gsa) THAT YtbbgldelebgnfaaProg.lean LOADS. Nothing in Lean hashes anything: it is a label: what it is worth is what the hold of that sum in a sandbox is worth. -/
noncomputable def Try.pinned : Pinned := { name := "ytbbgldelebgnfaa", sum := "7868c21210e9684ed2ecaacb1971168c53292d0c0b0ae4942640a8ca7caa790a", checked := Try.checked }
namespace Rows
def none {H : Type} : Left H := { results := [], args := [] }

/-- 'straightedgelaw11.GemmTells': WHATEVER THE INPUT: true; the input reads as it did. -/
def gemmTellsSpec : ChangeSpec := { name := "gemmTells", fn := fun _ => fun
  | [d1, d2, d3, d4, d5, d6] => { results := [.lit (.bool true)], args := [d1, d2, d3, d4, d5, d6] }
  | _ => none }
def gemmTellsRow : OpenClaim := { program := "ytbbgldelebgnfaa", sum := "7868c21210e9684ed2ecaacb1971168c53292d0c0b0ae4942640a8ca7caa790a", func := "straightedge/straightedgelaw11.GemmTells", spec := "gemmTells", inPlace := ["math.Float64bits"], unfollowed := true, recurses := true, apart := false }
def GemmTellsSaid : Prop := gemmTellsRow.holds Try.pinned (OpenSpec.ofChange gemmTellsSpec)

/-- ITS FALSE NEIGHBOUR: 'it returns false'. Refute it at one input. -/
def gemmTellsWrong : ChangeSpec := { name := "gemmTells", fn := fun _ => fun
  | [d1, d2, d3, d4, d5, d6] => { results := [.lit (.bool false)], args := [d1, d2, d3, d4, d5, d6] }
  | _ => none }
def GemmTellsWrongFalsely : Prop := gemmTellsRow.holds Try.pinned (OpenSpec.ofChange gemmTellsWrong)

/-- 'straightedgelaw11.GemmProducts': WHATEVER THE INPUT: true; the input reads as it did. -/
def gemmProductsSpec : ChangeSpec := { name := "gemmProducts", fn := fun _ => fun
  | [d] => { results := [.lit (.bool true)], args := [d] }
  | _ => none }
def gemmProductsRow : OpenClaim := { program := "ytbbgldelebgnfaa", sum := "7868c21210e9684ed2ecaacb1971168c53292d0c0b0ae4942640a8ca7caa790a", func := "straightedge/straightedgelaw11.GemmProducts", spec := "gemmProducts", inPlace := ["math.Float64bits"], unfollowed := true, recurses := true, apart := false }
def GemmProductsSaid : Prop := gemmProductsRow.holds Try.pinned (OpenSpec.ofChange gemmProductsSpec)

/-- ITS FALSE NEIGHBOUR: 'it returns false'. Refute it at one input. -/
def gemmProductsWrong : ChangeSpec := { name := "gemmProducts", fn := fun _ => fun
  | [d] => { results := [.lit (.bool false)], args := [d] }
  | _ => none }
def GemmProductsWrongFalsely : Prop := gemmProductsRow.holds Try.pinned (OpenSpec.ofChange gemmProductsWrong)

/-- 'straightedgelaw11.GemmWhole': WHATEVER THE INPUT: true; the input reads as it did. -/
def gemmWholeSpec : ChangeSpec := { name := "gemmWhole", fn := fun _ => fun
  | [d1, d2] => { results := [.lit (.bool true)], args := [d1, d2] }
  | _ => none }
def gemmWholeRow : OpenClaim := { program := "ytbbgldelebgnfaa", sum := "7868c21210e9684ed2ecaacb1971168c53292d0c0b0ae4942640a8ca7caa790a", func := "straightedge/straightedgelaw11.GemmWhole", spec := "gemmWhole", inPlace := ["math.Float64bits"], unfollowed := true, recurses := true, apart := false }
def GemmWholeSaid : Prop := gemmWholeRow.holds Try.pinned (OpenSpec.ofChange gemmWholeSpec)

/-- ITS FALSE NEIGHBOUR: 'it returns false'. Refute it at one input. -/
def gemmWholeWrong : ChangeSpec := { name := "gemmWhole", fn := fun _ => fun
  | [d1, d2] => { results := [.lit (.bool false)], args := [d1, d2] }
  | _ => none }
def GemmWholeWrongFalsely : Prop := gemmWholeRow.holds Try.pinned (OpenSpec.ofChange gemmWholeWrong)

/- THE SECOND FORM. 'bulk': how many values and letters a reading holds, each counted each time it is reached (what is shared counts as often as it is met; a slice's spare places count too). A statement '..UptoSaid' is the law's where the arguments, and the package variables that the reading takes, are together of bulk at most 1048576: NARROWER than '..Said'. Prove '..Said' where nothing that the law and all that it calls make is longer than what came in: it says more and counts as full. Else prove '..UptoSaid'. A law counts once. -/
mutual
def uptoBulk {H : Type} : DataW H → Nat
  | .lit (.string bytes) => bytes.length + 1
  | .lit _ => 1
  | .nil => 1
  | .ptr d => uptoBulk d + 1
  | .slice elems spare => uptoBulkAll elems + uptoBulkAll spare + 1
  | .agg parts => uptoBulkAll parts + 1
  | .iface _ d => uptoBulk d + 1
  | .map entries => uptoBulkEntries entries + 1
  | .held _ => 1
def uptoBulkAll {H : Type} : List (DataW H) → Nat
  | [] => 0
  | d :: r => uptoBulk d + uptoBulkAll r
def uptoBulkEntries {H : Type} : List (Lit × DataW H) → Nat
  | [] => 0
  | x :: r => uptoBulkEntry x + uptoBulkEntries r
def uptoBulkEntry {H : Type} : Lit × DataW H → Nat
  | (.string bytes, d) => bytes.length + uptoBulk d + 1
  | (_, d) => uptoBulk d + 1
 end
def uptoSmall : (H : Type) → List (DataW H) → Bool := fun _ ds => decide (uptoBulkAll ds ≤ 1048576)
def OpenSpec.upto (s : _root_.Go.ChangeSpec) : _root_.Go.OpenSpec := { _root_.Go.OpenSpec.ofChange s with cond := some uptoSmall }

/-- 'straightedgelaw11.GemmTells', WHERE WHAT IT READS IS OF BULK AT MOST 1048576: true; the input reads as it did. -/
def gemmTellsUptoRow : OpenClaim := { program := "ytbbgldelebgnfaa", sum := "7868c21210e9684ed2ecaacb1971168c53292d0c0b0ae4942640a8ca7caa790a", func := "straightedge/straightedgelaw11.GemmTells", spec := "gemmTells", inPlace := ["math.Float64bits"], unfollowed := true, recurses := true, apart := false, narrowed := true }
def GemmTellsUptoSaid : Prop := gemmTellsUptoRow.holds Try.pinned (OpenSpec.upto gemmTellsSpec)

/-- 'straightedgelaw11.GemmProducts', WHERE WHAT IT READS IS OF BULK AT MOST 1048576: true; the input reads as it did. -/
def gemmProductsUptoRow : OpenClaim := { program := "ytbbgldelebgnfaa", sum := "7868c21210e9684ed2ecaacb1971168c53292d0c0b0ae4942640a8ca7caa790a", func := "straightedge/straightedgelaw11.GemmProducts", spec := "gemmProducts", inPlace := ["math.Float64bits"], unfollowed := true, recurses := true, apart := false, narrowed := true }
def GemmProductsUptoSaid : Prop := gemmProductsUptoRow.holds Try.pinned (OpenSpec.upto gemmProductsSpec)

/-- 'straightedgelaw11.GemmWhole', WHERE WHAT IT READS IS OF BULK AT MOST 1048576: true; the input reads as it did. -/
def gemmWholeUptoRow : OpenClaim := { program := "ytbbgldelebgnfaa", sum := "7868c21210e9684ed2ecaacb1971168c53292d0c0b0ae4942640a8ca7caa790a", func := "straightedge/straightedgelaw11.GemmWhole", spec := "gemmWhole", inPlace := ["math.Float64bits"], unfollowed := true, recurses := true, apart := false, narrowed := true }
def GemmWholeUptoSaid : Prop := gemmWholeUptoRow.holds Try.pinned (OpenSpec.upto gemmWholeSpec)

end Rows
end Go.Proofs.Ytbbgldelebgnfaa
