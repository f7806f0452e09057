/-
Arguments that are lists of ints, and bools, opened. Conditions: none.
-/
import Derived.Test.YtbjopdnfjjcpoaaVwO
set_option linter.unusedVariables false
namespace Go.Proofs.Ytbjopdnfjjcpoaa
open Go.RowKit Go.WideShapes Go.ChangeShapes Go.Deep

/-- The cells of a list of ints. -/
def i64s (l : List Int) : List Value := l.map fun (z : Int) => Value.int .i64 z
theorem i64s_get (l : List Int) (i : Nat) (h : i < l.length) : (i64s l)[i]? = some (.int .i64 l[i]) := by simp [i64s, h]
theorem i64s_get? {l : List Int} {i : Nat} {v : Value} (h : (i64s l)[i]? = some v) : ∃ hi : i < l.length, v = .int .i64 l[i] := by
  unfold i64s at h
  rw [List.getElem?_map] at h
  rcases Nat.lt_or_ge i l.length with hl | hl
  · rw [List.getElem?_eq_getElem hl] at h
    exact ⟨hl, by simpa using h.symm⟩
  · rw [List.getElem?_eq_none hl] at h; cases h

section
variable {H : Type} {enc : TypeId × Value → H} {P : Program} {w : World} {base : Nat} {spare : Nat → Bool} {held : Bool}
theorem open_intc {t e : TypeId} {n : Nat} {v : Value} {y : DataW H × List MemPlace} (ht : P.underlying t = some (.slice e)) (hc : P.cellsOf e = 1) (he : P.underlying e = some (.int .i64))
    (h : DataW.trod enc P w base spare held n t [v] = some y) : ∃ A c l, v = .slice A l.length c ∧ l.length ≤ c ∧ c < 9223372036854775808 ∧ (∀ z ∈ l, I64 z) ∧ Row w A (i64s l) := by
  rcases open_slice1 ht hc h with ⟨h0, _⟩ | ⟨a, len, cap, m, n, V, D, Pl, hcs, hb, hl, hm, hmm, hx, hi⟩
  · refine ⟨none, 0, [], ?_, by simp, by decide, (fun b hb => by cases hb), .inl rfl⟩
    simpa using h0
  · have hle : len ≤ m := by rw [hmm]; split <;> omega
    have hb' : ∀ i, i < len → ∃ b : Int, V i = .int .i64 b ∧ I64 b := fun i h => trod_i64 he (hi i (by omega)).2
    obtain ⟨B, hB⟩ := choose_lt (α := Int) (p := fun i b => V i = .int .i64 b ∧ I64 b) hb'
    have hcap : cap < 9223372036854775808 := by unfold maxLen at hm; omega
    refine ⟨some a, cap, (List.range len).map B, by simpa using hcs, by simpa using hl, hcap, ?_, ?_⟩
    · intro b hb
      obtain ⟨i, hi1, rfl⟩ := List.mem_map.1 hb
      exact (hB i (List.mem_range.1 hi1)).2
    · by_cases hz : len = 0
      · subst hz; exact .inl rfl
      · have h0 := (hi 0 (by omega)).1
        obtain ⟨b, o, s⟩ := a
        have hs : s = none := by
          cases s with
          | none => rfl
          | some s => exfalso; simp [Addr.add, World.cell?] at h0; split at h0 <;> cases h0
        subst hs
        refine .inr ⟨b, o, rfl, fun i v hv => ?_⟩
        obtain ⟨hi1, rfl⟩ := i64s_get? hv
        have hil : i < len := by simpa using hi1
        have := (hi i (by omega)).1
        rw [(hB i hil).1] at this
        rw [add_plain] at this
        rw [this]; simp
theorem open_intl {t e : TypeId} {v : Value} {d : DataW H} {p : List MemPlace} {r : Reach} {b0 : Nat} (ht : P.underlying t = some (.slice e)) (hc : P.cellsOf e = 1) (he : P.underlying e = some (.int .i64))
    (hv : Value.okWide P w r b0 t v) (h : DataW.Trod enc P w base spare held t v d p) : ∃ A c l, v = .slice A l.length c ∧ l.length ≤ c ∧ c < 9223372036854775808 ∧ (∀ z ∈ l, I64 z) ∧ Row w A (i64s l) := by
  obtain ⟨a, len, cap, rfl⟩ := okWide_slice ht hv
  obtain ⟨fuel, hf⟩ := h
  exact open_intc ht hc he (by simpa [Value.cells] using hf)
end
end Go.Proofs.Ytbjopdnfjjcpoaa
