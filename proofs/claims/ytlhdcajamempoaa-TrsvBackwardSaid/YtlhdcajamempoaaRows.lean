/-
  No cell of these rows narrows 'for every input' (looked for: loops, veiled, ifaces, maps, wideKeys, modest, calm, conditions, laid).
  DERIVED. THE GIVEN ROWS OF THIS SEAT. 4 by the template 'for every input the law returns true; each argument reads behind the call as it read before'; 0 by the template 'total and deterministic' (their statements: YtlhdcajamempoaaTotals.lean).
  GIVEN WITH THE SEED: the statements are not yours to turn. If you find one false, say at which input.
  Laid BY PROGRAM, IN A SANDBOX (cutbox-rows.mjs): the forced cells as the released guide's own fill.sh prints them over the translation fb9b9a778a771fe4… (all of the seat's roots in one cut). By AI agents, Wed Nov 11 2026. No macro, syntax, notation, axiom, sorry.
-/
import Derived.Test.YtlhdcajamempoaaChecked
import GoSem.Claim
import GoSem.ClaimJoined
import GoSem.ClaimMapViews
import Derived.JoinedTies
import Derived.KernelRfl
namespace Go.Proofs.Ytlhdcajamempoaa
/- THE CELL 'sum', in the pinned program and in every row, IS THE sha256 OF THE DUMP (.gsa) THAT YtlhdcajamempoaaProg.lean LOADS. Nothing in Lean hashes anything: it is a label: what it is worth is what the hold of that sum in a sandbox is worth. -/
noncomputable def Try.pinned : Pinned := { name := "ytlhdcajamempoaa", sum := "fb9b9a778a771fe4d0af7dec5726c09a0e5a12bbe4d488a9961212689cae96a7", checked := Try.checked }
namespace Rows
def none {H : Type} : Left H := { results := [], args := [] }

/-- 'straightedgelaw07.GemvTurns': WHATEVER THE INPUT: true; the input reads as it did. -/
def gemvTurnsSpec : ChangeSpec := { name := "gemvTurns", fn := fun _ => fun
  | [d1, d2, d3, d4] => { results := [.lit (.bool true)], args := [d1, d2, d3, d4] }
  | _ => none }
def gemvTurnsRow : OpenClaim := { program := "ytlhdcajamempoaa", sum := "fb9b9a778a771fe4d0af7dec5726c09a0e5a12bbe4d488a9961212689cae96a7", func := "straightedge/straightedgelaw07.GemvTurns", spec := "gemvTurns", inPlace := ["math.Float64bits", "math.Float64frombits"], unfollowed := true, recurses := true, apart := false }
def GemvTurnsSaid : Prop := gemvTurnsRow.holds Try.pinned (OpenSpec.ofChange gemvTurnsSpec)

/-- ITS FALSE NEIGHBOUR: 'it returns false'. Refute it at one input. -/
def gemvTurnsWrong : ChangeSpec := { name := "gemvTurns", fn := fun _ => fun
  | [d1, d2, d3, d4] => { results := [.lit (.bool false)], args := [d1, d2, d3, d4] }
  | _ => none }
def GemvTurnsWrongFalsely : Prop := gemvTurnsRow.holds Try.pinned (OpenSpec.ofChange gemvTurnsWrong)

/-- 'straightedgelaw09.TrsvSolves': WHATEVER THE INPUT: true; the input reads as it did. -/
def trsvSolvesSpec : ChangeSpec := { name := "trsvSolves", fn := fun _ => fun
  | [d1, d2, d3, d4] => { results := [.lit (.bool true)], args := [d1, d2, d3, d4] }
  | _ => none }
def trsvSolvesRow : OpenClaim := { program := "ytlhdcajamempoaa", sum := "fb9b9a778a771fe4d0af7dec5726c09a0e5a12bbe4d488a9961212689cae96a7", func := "straightedge/straightedgelaw09.TrsvSolves", spec := "trsvSolves", inPlace := ["math.Float64bits"], apart := false }
def TrsvSolvesSaid : Prop := trsvSolvesRow.holds Try.pinned (OpenSpec.ofChange trsvSolvesSpec)

/-- ITS FALSE NEIGHBOUR: 'it returns false'. Refute it at one input. -/
def trsvSolvesWrong : ChangeSpec := { name := "trsvSolves", fn := fun _ => fun
  | [d1, d2, d3, d4] => { results := [.lit (.bool false)], args := [d1, d2, d3, d4] }
  | _ => none }
def TrsvSolvesWrongFalsely : Prop := trsvSolvesRow.holds Try.pinned (OpenSpec.ofChange trsvSolvesWrong)

/-- 'straightedgelaw09.TrsvApplies': WHATEVER THE INPUT: true; the input reads as it did. -/
def trsvAppliesSpec : ChangeSpec := { name := "trsvApplies", fn := fun _ => fun
  | [d1, d2, d3] => { results := [.lit (.bool true)], args := [d1, d2, d3] }
  | _ => none }
def trsvAppliesRow : OpenClaim := { program := "ytlhdcajamempoaa", sum := "fb9b9a778a771fe4d0af7dec5726c09a0e5a12bbe4d488a9961212689cae96a7", func := "straightedge/straightedgelaw09.TrsvApplies", spec := "trsvApplies", inPlace := ["math.Float64bits"], apart := false }
def TrsvAppliesSaid : Prop := trsvAppliesRow.holds Try.pinned (OpenSpec.ofChange trsvAppliesSpec)

/-- ITS FALSE NEIGHBOUR: 'it returns false'. Refute it at one input. -/
def trsvAppliesWrong : ChangeSpec := { name := "trsvApplies", fn := fun _ => fun
  | [d1, d2, d3] => { results := [.lit (.bool false)], args := [d1, d2, d3] }
  | _ => none }
def TrsvAppliesWrongFalsely : Prop := trsvAppliesRow.holds Try.pinned (OpenSpec.ofChange trsvAppliesWrong)

/-- 'straightedgelaw09.TrsvBackward': WHATEVER THE INPUT: true; the input reads as it did. -/
def trsvBackwardSpec : ChangeSpec := { name := "trsvBackward", fn := fun _ => fun
  | [d1, d2, d3] => { results := [.lit (.bool true)], args := [d1, d2, d3] }
  | _ => none }
def trsvBackwardRow : OpenClaim := { program := "ytlhdcajamempoaa", sum := "fb9b9a778a771fe4d0af7dec5726c09a0e5a12bbe4d488a9961212689cae96a7", func := "straightedge/straightedgelaw09.TrsvBackward", spec := "trsvBackward", inPlace := ["math.Float64bits"], apart := false }
def TrsvBackwardSaid : Prop := trsvBackwardRow.holds Try.pinned (OpenSpec.ofChange trsvBackwardSpec)

/-- ITS FALSE NEIGHBOUR: 'it returns false'. Refute it at one input. -/
def trsvBackwardWrong : ChangeSpec := { name := "trsvBackward", fn := fun _ => fun
  | [d1, d2, d3] => { results := [.lit (.bool false)], args := [d1, d2, d3] }
  | _ => none }
def TrsvBackwardWrongFalsely : Prop := trsvBackwardRow.holds Try.pinned (OpenSpec.ofChange trsvBackwardWrong)

/- THE SECOND FORM. 'bulk': how many values and letters a reading holds, each counted each time it is reached (what is shared counts as often as it is met; a slice's spare places count too). A statement '..UptoSaid' is the law's where the arguments, and the package variables that the reading takes, are together of bulk at most 1048576: NARROWER than '..Said'. Prove '..Said' where nothing that the law and all that it calls make is longer than what came in: it says more and counts as full. Else prove '..UptoSaid'. A law counts once. -/
mutual
def uptoBulk {H : Type} : DataW H → Nat
  | .lit (.string bytes) => bytes.length + 1
  | .lit _ => 1
  | .nil => 1
  | .ptr d => uptoBulk d + 1
  | .slice elems spare => uptoBulkAll elems + uptoBulkAll spare + 1
  | .agg parts => uptoBulkAll parts + 1
  | .iface _ d => uptoBulk d + 1
  | .map entries => uptoBulkEntries entries + 1
  | .held _ => 1
def uptoBulkAll {H : Type} : List (DataW H) → Nat
  | [] => 0
  | d :: r => uptoBulk d + uptoBulkAll r
def uptoBulkEntries {H : Type} : List (Lit × DataW H) → Nat
  | [] => 0
  | x :: r => uptoBulkEntry x + uptoBulkEntries r
def uptoBulkEntry {H : Type} : Lit × DataW H → Nat
  | (.string bytes, d) => bytes.length + uptoBulk d + 1
  | (_, d) => uptoBulk d + 1
 end
def uptoSmall : (H : Type) → List (DataW H) → Bool := fun _ ds => decide (uptoBulkAll ds ≤ 1048576)
def OpenSpec.upto (s : _root_.Go.ChangeSpec) : _root_.Go.OpenSpec := { _root_.Go.OpenSpec.ofChange s with cond := some uptoSmall }

/-- 'straightedgelaw07.GemvTurns', WHERE WHAT IT READS IS OF BULK AT MOST 1048576: true; the input reads as it did. -/
def gemvTurnsUptoRow : OpenClaim := { program := "ytlhdcajamempoaa", sum := "fb9b9a778a771fe4d0af7dec5726c09a0e5a12bbe4d488a9961212689cae96a7", func := "straightedge/straightedgelaw07.GemvTurns", spec := "gemvTurns", inPlace := ["math.Float64bits", "math.Float64frombits"], unfollowed := true, recurses := true, apart := false, narrowed := true }
def GemvTurnsUptoSaid : Prop := gemvTurnsUptoRow.holds Try.pinned (OpenSpec.upto gemvTurnsSpec)

/-- 'straightedgelaw09.TrsvSolves', WHERE WHAT IT READS IS OF BULK AT MOST 1048576: true; the input reads as it did. -/
def trsvSolvesUptoRow : OpenClaim := { program := "ytlhdcajamempoaa", sum := "fb9b9a778a771fe4d0af7dec5726c09a0e5a12bbe4d488a9961212689cae96a7", func := "straightedge/straightedgelaw09.TrsvSolves", spec := "trsvSolves", inPlace := ["math.Float64bits"], apart := false, narrowed := true }
def TrsvSolvesUptoSaid : Prop := trsvSolvesUptoRow.holds Try.pinned (OpenSpec.upto trsvSolvesSpec)

/-- 'straightedgelaw09.TrsvApplies', WHERE WHAT IT READS IS OF BULK AT MOST 1048576: true; the input reads as it did. -/
def trsvAppliesUptoRow : OpenClaim := { program := "ytlhdcajamempoaa", sum := "fb9b9a778a771fe4d0af7dec5726c09a0e5a12bbe4d488a9961212689cae96a7", func := "straightedge/straightedgelaw09.TrsvApplies", spec := "trsvApplies", inPlace := ["math.Float64bits"], apart := false, narrowed := true }
def TrsvAppliesUptoSaid : Prop := trsvAppliesUptoRow.holds Try.pinned (OpenSpec.upto trsvAppliesSpec)

/-- 'straightedgelaw09.TrsvBackward', WHERE WHAT IT READS IS OF BULK AT MOST 1048576: true; the input reads as it did. -/
def trsvBackwardUptoRow : OpenClaim := { program := "ytlhdcajamempoaa", sum := "fb9b9a778a771fe4d0af7dec5726c09a0e5a12bbe4d488a9961212689cae96a7", func := "straightedge/straightedgelaw09.TrsvBackward", spec := "trsvBackward", inPlace := ["math.Float64bits"], apart := false, narrowed := true }
def TrsvBackwardUptoSaid : Prop := trsvBackwardUptoRow.holds Try.pinned (OpenSpec.upto trsvBackwardSpec)

end Rows
end Go.Proofs.Ytlhdcajamempoaa
