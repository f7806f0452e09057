/-
  DERIVED. GIVEN WITH THE SEED: THE CARDS: each row of YtajcjpbfmpljkaaDoorRows.lean that lists a variable, with what it lists TIED to the program's text (the seventh form; the later family's looks); each row that meets fmt, with fmt's text TOLD by the authors' own Lean function (tested against real Go, not proved from fmt's source: count such statements apart). THE CARD IS WHAT COUNTS. Prove the row's statement (the work); the ties are given (YtajcjpbfmpljkaaDoorTie.lean); close each card by the builder's one call (the guide's Derived/Test/ToyasCard.lean, 'card_holds'). Laid BY PROGRAM, IN A SANDBOX (cutbox-door.mjs). By AI agents, Wed Nov 11 2026. No macro, syntax, notation, axiom, sorry.
-/
import Derived.Test.YtajcjpbfmpljkaaDoorRows
import GoSem.ClaimSeven
namespace Go.Proofs.YtajcjpbfmpljkaaDoor
namespace Rows

/-- THE TIED CARD OF 'straightedgelaw02.DyadInts'. -/
def dyadIntsCard : Claim7 := { stood := { row := dyadIntsRow, standIns := [], harness := (true, "778a0befef3783b2e0695ecaba0216be279b9081df894b395dd74e4da463a68a"), looks := false }, kinds := [], alts := [], laidByText := true, laidKinds := [.data, .data, .data, .data, .pinned], laidTests := true, laidLooks := .later }
def DyadIntsCardSaid : Prop := Claim7.holds Tryd.pinned (.plain (OpenSpec.ofChange dyadIntsSpec)) dyadIntsCard

/-- THE SECOND FORM's CARD OF 'straightedgelaw02.DyadInts'. -/
def dyadIntsUptoCard : Claim7 := { stood := { row := dyadIntsUptoRow, standIns := [], harness := (true, "778a0befef3783b2e0695ecaba0216be279b9081df894b395dd74e4da463a68a"), looks := false }, kinds := [], alts := [], laidByText := true, laidKinds := [.data, .data, .data, .data, .pinned], laidTests := true, laidLooks := .later }
def DyadIntsUptoCardSaid : Prop := Claim7.holds Tryd.pinned (.plain (OpenSpec.upto dyadIntsSpec)) dyadIntsUptoCard
end Rows
end Go.Proofs.YtajcjpbfmpljkaaDoor
