/-
Arguments that are lists of int8s, opened. Conditions: none.
-/
import Derived.Test.YtbbgldelebgnfaaUaad
import Derived.Laws.IdiomArrays
set_option linter.unusedVariables false
namespace Go.Proofs.Ytbbgldelebgnfaa
open Go.RowKit Go.WideShapes Go.ChangeShapes Go.Deep

/-- The cells of a list of int8s. -/
def i8s (l : List Int) : List Value := l.map fun (z : Int) => Value.int .i8 z
theorem i8s_get (l : List Int) (i : Nat) (h : i < l.length) : (i8s l)[i]? = some (.int .i8 l[i]) := by simp [i8s, h]
theorem i8s_get? {l : List Int} {i : Nat} {v : Value} (h : (i8s l)[i]? = some v) : ∃ hi : i < l.length, v = .int .i8 l[i] := by
  unfold i8s at h
  rw [List.getElem?_map] at h
  rcases Nat.lt_or_ge i l.length with hl | hl
  · rw [List.getElem?_eq_getElem hl] at h
    exact ⟨hl, by simpa using h.symm⟩
  · rw [List.getElem?_eq_none hl] at h; cases h

/-- An int8's range. -/
def I8 (z : Int) : Prop := -128 ≤ z ∧ z < 128
section
variable {H : Type} {enc : TypeId × Value → H} {P : Program} {w : World} {base : Nat} {spare : Nat → Bool} {held : Bool}
theorem trod_i8 {e : TypeId} {n : Nat} {v : Value} {y : DataW H × List MemPlace} (he : P.underlying e = some (.int .i8)) (h : DataW.trod enc P w base spare held n e [v] = some y) : ∃ z : Int, v = .int .i8 z ∧ I8 z := by
  obtain ⟨m, hv, _, hw⟩ := DataW.trod_int he h
  simp [Lit.wf, IntKind.min, IntKind.max, IntKind.signed, IntKind.bits] at hw
  exact ⟨m, by simpa using hv, by unfold I8; omega⟩
theorem open_i8c {t e : TypeId} {n : Nat} {v : Value} {y : DataW H × List MemPlace} (ht : P.underlying t = some (.slice e)) (hc : P.cellsOf e = 1) (he : P.underlying e = some (.int .i8))
    (h : DataW.trod enc P w base spare held n t [v] = some y) : ∃ A c l, v = .slice A l.length c ∧ l.length ≤ c ∧ c < 9223372036854775808 ∧ (∀ z ∈ l, I8 z) ∧ Row w A (i8s l) := by
  rcases open_slice1 ht hc h with ⟨h0, _⟩ | ⟨a, len, cap, m, n, V, D, Pl, hcs, hb, hl, hm, hmm, hx, hi⟩
  · refine ⟨none, 0, [], ?_, by simp, by decide, (fun b hb => by cases hb), .inl rfl⟩
    simpa using h0
  · have hle : len ≤ m := by rw [hmm]; split <;> omega
    have hb' : ∀ i, i < len → ∃ b : Int, V i = .int .i8 b ∧ I8 b := fun i h => trod_i8 he (hi i (by omega)).2
    obtain ⟨B, hB⟩ := choose_lt (α := Int) (p := fun i b => V i = .int .i8 b ∧ I8 b) hb'
    have hcap : cap < 9223372036854775808 := by unfold maxLen at hm; omega
    refine ⟨some a, cap, (List.range len).map B, by simpa using hcs, by simpa using hl, hcap, ?_, ?_⟩
    · intro b hb
      obtain ⟨i, hi1, rfl⟩ := List.mem_map.1 hb
      exact (hB i (List.mem_range.1 hi1)).2
    · by_cases hz : len = 0
      · subst hz; exact .inl rfl
      · have h0 := (hi 0 (by omega)).1
        obtain ⟨b, o, s⟩ := a
        have hs : s = none := by
          cases s with
          | none => rfl
          | some s => exfalso; simp [Addr.add, World.cell?] at h0; split at h0 <;> cases h0
        subst hs
        refine .inr ⟨b, o, rfl, fun i v hv => ?_⟩
        obtain ⟨hi1, rfl⟩ := i8s_get? hv
        have hil : i < len := by simpa using hi1
        have := (hi i (by omega)).1
        rw [(hB i hil).1] at this
        rw [add_plain] at this
        rw [this]; simp
theorem open_i8l {t e : TypeId} {v : Value} {d : DataW H} {p : List MemPlace} {r : Reach} {b0 : Nat} (ht : P.underlying t = some (.slice e)) (hc : P.cellsOf e = 1) (he : P.underlying e = some (.int .i8))
    (hv : Value.okWide P w r b0 t v) (h : DataW.Trod enc P w base spare held t v d p) : ∃ A c l, v = .slice A l.length c ∧ l.length ≤ c ∧ c < 9223372036854775808 ∧ (∀ z ∈ l, I8 z) ∧ Row w A (i8s l) := by
  obtain ⟨a, len, cap, rfl⟩ := okWide_slice ht hv
  obtain ⟨fuel, hf⟩ := h
  exact open_i8c ht hc he (by simpa [Value.cells] using hf)
end
end Go.Proofs.Ytbbgldelebgnfaa
/-
An argument that is an array of four bytes, opened. Conditions: none.
-/
set_option linter.unusedVariables false
namespace Go.Proofs.Ytbbgldelebgnfaa
open Go.RowKit Go.WideShapes Go.ChangeShapes Go.Deep
section
variable {H : Type} {enc : TypeId × Value → H} {P : Program} {w : World} {base : Nat} {spare : Nat → Bool} {held : Bool}
theorem trod_u8 {e : TypeId} {n : Nat} {v : Value} {y : DataW H × List MemPlace} (he : P.underlying e = some (.int .u8)) (h : DataW.trod enc P w base spare held n e [v] = some y) : ∃ z : Nat, v = .int .u8 (z : Int) ∧ z < 256 := by
  obtain ⟨m, hv, _, hw⟩ := DataW.trod_int he h
  simp [Lit.wf, IntKind.min, IntKind.max, IntKind.signed, IntKind.bits] at hw
  have hv' : v = .int .u8 m := by simpa using hv
  exact ⟨m.toNat, by rw [hv', Int.toNat_of_nonneg (by omega)], by omega⟩
theorem open_arr4 {t e : TypeId} {v : Value} {d : DataW H} {p : List MemPlace} {r : Reach} {b0 : Nat} (ht : P.underlying t = some (.array 4 e)) (hce : P.cellsOf e = 1) (hct : P.cellsOf t = 4) (he : P.underlying e = some (.int .u8))
    (hv : Value.okWide P w r b0 t v) (h : DataW.Trod enc P w base spare held t v d p) : ∃ z0 z1 z2 z3 : Nat, v = .agg #[.int .u8 (z0 : Int), .int .u8 (z1 : Int), .int .u8 (z2 : Int), .int .u8 (z3 : Int)] ∧ z0 < 256 ∧ z1 < 256 ∧ z2 < 256 ∧ z3 < 256 := by
  obtain ⟨cs, rfl, hsz, _⟩ : ∃ cs, v = .agg cs ∧ cs.size = P.cellsOf t ∧ Row.okWide P w r b0 t cs := by
    simpa [Value.okWide, ht] using hv
  rw [hct] at hsz
  obtain ⟨ls⟩ := cs
  match ls, hsz with
  | [c0, c1, c2, c3], _ =>
    obtain ⟨fuel, hf⟩ := h
    obtain ⟨y0, y1, y2, y3, m, hx, hy0, hy1, hy2, hy3⟩ := trod_array4 ht hce hf
    obtain ⟨z0, rfl, q0⟩ := trod_u8 he hy0
    obtain ⟨z1, rfl, q1⟩ := trod_u8 he hy1
    obtain ⟨z2, rfl, q2⟩ := trod_u8 he hy2
    obtain ⟨z3, rfl, q3⟩ := trod_u8 he hy3
    exact ⟨z0, z1, z2, z3, rfl, q0, q1, q2, q3⟩
end
end Go.Proofs.Ytbbgldelebgnfaa
