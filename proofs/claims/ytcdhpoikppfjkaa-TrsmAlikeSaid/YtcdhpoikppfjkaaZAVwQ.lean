/-
The first cell of an argument's list is among the places that are read. Conditions: none.
-/
import Derived.Test.YtcdhpoikppfjkaaZAVwO
set_option linter.unusedVariables false
namespace Go.Proofs.Ytcdhpoikppfjkaa
open Go.RowKit Go.WideShapes Go.ChangeShapes Go.Deep

section
variable {H : Type} {enc : TypeId × Value → H} {P : Program} {w : World} {base : Nat} {spare : Nat → Bool} {held : Bool}
theorem flo_place {t e : TypeId} {n : Nat} {b o len c : Nat} {y : DataW H × List MemPlace} (ht : P.underlying t = some (.slice e)) (hc : P.cellsOf e = 1)
    (h : DataW.trod enc P w base spare held n t [.slice (some ⟨b, o, none⟩) len c] = some y) (hl : 0 < len) : MemPlace.cell b o ∈ y.2 := by
  rcases open_slice1 ht hc h with ⟨h0, _⟩ | ⟨a, len', cap, m, n', V, D, Pl, hcs, hb, hle, hm, hmm, hx, hi⟩
  · simp at h0
  · simp only [List.cons.injEq, Value.slice.injEq, Option.some.injEq, and_true] at hcs
    obtain ⟨rfl, rfl, rfl⟩ := hcs
    subst hx
    have hm0 : 0 < m := by rw [hmm]; split <;> omega
    exact List.mem_append_left _ (MemPlace.mem_row.2 ⟨0, hm0, rfl⟩)

theorem mat_place {t : TypeId} {f0 f1 f2 f3 f4 : Field} {e : TypeId} {d : DataW H} {p : List MemPlace} {b o len c : Nat} {off rr k ld : Int} (hs : P.underlying t = some (.struct #[f0, f1, f2, f3, f4])) (hone : oneCellFields P #[f0, f1, f2, f3, f4] = true)
    (h0 : P.underlying f0.type = some (.slice e)) (hc : P.cellsOf e = 1)
    (h : DataW.Trod enc P w base spare held t (mat (some ⟨b, o, none⟩) len c off rr k ld) d p) (hl : 0 < len) : MemPlace.cell b o ∈ p := by
  obtain ⟨fuel, hf⟩ := h
  obtain ⟨xs, n, _, hx, _, hlen, hg⟩ := DataW.trod_struct hs hf
  obtain ⟨o0, k0⟩ := hone_of hone 0 f0 rfl
  match xs, hlen with
  | [y0, y1, y2, y3, y4], _ =>
    have g0 : DataW.trod enc P w base spare held n f0.type [.slice (some ⟨b, o, none⟩) len c] = some y0 := by simpa [Value.cells, mat, o0, k0] using hg 0 f0 rfl
    have hm := flo_place h0 hc g0 hl
    simp only [Prod.mk.injEq] at hx
    rw [hx.2]
    simp [hm]
end
end Go.Proofs.Ytcdhpoikppfjkaa
