/-
  DERIVED. GIVEN WITH THE SEED: THE CARDS: each row of YtbkbeglmfhaleaaGreatDoorRows.lean that lists a variable, with what it lists TIED to the program's text (the seventh form; the later family's looks); each row that meets fmt, with fmt's text TOLD by the authors' own Lean function (tested against real Go, not proved from fmt's source: count such statements apart). THE CARD IS WHAT COUNTS. Prove the row's statement (the work); the ties are given (YtbkbeglmfhaleaaGreatDoorTie.lean); close each card by the builder's one call (the guide's Derived/Test/ToyasCard.lean, 'card_holds'). Laid BY PROGRAM, IN A SANDBOX (cutbox-door.mjs). By AI agents, Wed Nov 11 2026. No macro, syntax, notation, axiom, sorry.
-/
import Derived.Test.YtbkbeglmfhaleaaGreatDoorRows
import GoSem.ClaimSeven
namespace Go.Proofs.YtbkbeglmfhaleaaGreatDoor
namespace Rows

/-- THE TIED CARD OF 'straightedgelaw02.DyadSums'. -/
def dyadSumsCard : Claim7 := { stood := { row := dyadSumsRow, standIns := [], harness := (true, "1abfe6afc69c870e98486c330934d03fab7064ef60ccff357e301d3afc4c9678"), looks := false }, kinds := [], alts := [], laidByText := true, laidKinds := [.data, .data, .data, .data, .pinned], laidTests := true, laidLooks := .later }
def DyadSumsCardSaid : Prop := Claim7.holds Tryz.pinned (.plain (OpenSpec.ofChange dyadSumsSpec)) dyadSumsCard

/-- THE TIED CARD OF 'straightedgelaw02.DyadNear'. -/
def dyadNearCard : Claim7 := { stood := { row := dyadNearRow, standIns := [], harness := (true, "1abfe6afc69c870e98486c330934d03fab7064ef60ccff357e301d3afc4c9678"), looks := false }, kinds := [], alts := [], laidByText := true, laidKinds := [.data, .data, .data, .data, .pinned], laidTests := true, laidLooks := .later }
def DyadNearCardSaid : Prop := Claim7.holds Tryz.pinned (.plain (OpenSpec.ofChange dyadNearSpec)) dyadNearCard

/-- THE TIED CARD OF 'straightedgelaw02.DyadLaws'. -/
def dyadLawsCard : Claim7 := { stood := { row := dyadLawsRow, standIns := [], harness := (true, "1abfe6afc69c870e98486c330934d03fab7064ef60ccff357e301d3afc4c9678"), looks := false }, kinds := [], alts := [], laidByText := true, laidKinds := [.data, .data, .data, .data, .pinned], laidTests := true, laidLooks := .later }
def DyadLawsCardSaid : Prop := Claim7.holds Tryz.pinned (.plain (OpenSpec.ofChange dyadLawsSpec)) dyadLawsCard

/-- THE SECOND FORM's CARD OF 'straightedgelaw02.DyadSums'. -/
def dyadSumsUptoCard : Claim7 := { stood := { row := dyadSumsUptoRow, standIns := [], harness := (true, "1abfe6afc69c870e98486c330934d03fab7064ef60ccff357e301d3afc4c9678"), looks := false }, kinds := [], alts := [], laidByText := true, laidKinds := [.data, .data, .data, .data, .pinned], laidTests := true, laidLooks := .later }
def DyadSumsUptoCardSaid : Prop := Claim7.holds Tryz.pinned (.plain (OpenSpec.upto dyadSumsSpec)) dyadSumsUptoCard

/-- THE SECOND FORM's CARD OF 'straightedgelaw02.DyadNear'. -/
def dyadNearUptoCard : Claim7 := { stood := { row := dyadNearUptoRow, standIns := [], harness := (true, "1abfe6afc69c870e98486c330934d03fab7064ef60ccff357e301d3afc4c9678"), looks := false }, kinds := [], alts := [], laidByText := true, laidKinds := [.data, .data, .data, .data, .pinned], laidTests := true, laidLooks := .later }
def DyadNearUptoCardSaid : Prop := Claim7.holds Tryz.pinned (.plain (OpenSpec.upto dyadNearSpec)) dyadNearUptoCard

/-- THE SECOND FORM's CARD OF 'straightedgelaw02.DyadLaws'. -/
def dyadLawsUptoCard : Claim7 := { stood := { row := dyadLawsUptoRow, standIns := [], harness := (true, "1abfe6afc69c870e98486c330934d03fab7064ef60ccff357e301d3afc4c9678"), looks := false }, kinds := [], alts := [], laidByText := true, laidKinds := [.data, .data, .data, .data, .pinned], laidTests := true, laidLooks := .later }
def DyadLawsUptoCardSaid : Prop := Claim7.holds Tryz.pinned (.plain (OpenSpec.upto dyadLawsSpec)) dyadLawsUptoCard
end Rows
end Go.Proofs.YtbkbeglmfhaleaaGreatDoor
