/-
Arguments that are lists of floats, vectors and matrices, opened. Conditions: none.
-/
import Derived.Test.YtelpdbkkefpjhaaZKVwA
import Derived.Test.YtelpdbkkefpjhaaKPostA
import Derived.Deep.Slices
import Derived.Deep.Fields
import Derived.ChangeSame
import Derived.Laws.Cover2
set_option linter.unusedVariables false
namespace Go.Proofs.Ytelpdbkkefpjhaa
open Go.RowKit Go.WideShapes Go.ChangeShapes Go.Deep

/-- The cells of a list of floats. -/
def f64s (l : List Nat) : List Value := l.map fun (b : Nat) => Value.float .f64 b
theorem f64s_get? {l : List Nat} {i : Nat} {v : Value} (h : (f64s l)[i]? = some v) : ∃ hi : i < l.length, v = .float .f64 l[i] := by
  unfold f64s at h
  rw [List.getElem?_map] at h
  rcases Nat.lt_or_ge i l.length with hl | hl
  · rw [List.getElem?_eq_getElem hl] at h
    exact ⟨hl, by simpa using h.symm⟩
  · rw [List.getElem?_eq_none hl] at h; cases h
theorem f64s_get (l : List Nat) (i : Nat) (h : i < l.length) : (f64s l)[i]? = some (.float .f64 l[i]) := by simp [f64s, h]
/-- Each is a word. -/
def Wds (l : List Nat) : Prop := ∀ b ∈ l, b < 18446744073709551616
theorem Wds.at_ {l : List Nat} (h : Wds l) (i : Nat) (hi : i < l.length) : l[i] < 18446744073709551616 := h _ (List.getElem_mem hi)

section
variable {H : Type} {enc : TypeId × Value → H} {P : Program} {w : World} {base : Nat} {spare : Nat → Bool} {held : Bool}
theorem trod_float {e : TypeId} {n : Nat} {v : Value} {y : DataW H × List MemPlace} (he : P.underlying e = some (.float .f64)) (h : DataW.trod enc P w base spare held n e [v] = some y) : ∃ b : Nat, v = .float .f64 b ∧ b < 18446744073709551616 := by
  cases n with
  | zero => simp [DataW.trod] at h
  | succ n =>
    rw [DataW.trod_step] at h
    unfold DataW.trodStep at h
    rw [he] at h
    split at h
    case h_3 k k' b h1 h2 =>
      injection h1 with h1; injection h1 with h1
      subst h1
      split at h
      · rename_i hw
        obtain ⟨rfl, hw⟩ := hw
        exact ⟨b, by simpa using h2, by simpa [Lit.wf] using hw⟩
      · cases h
    all_goals first | cases h; done | (exfalso; rename_i h1 h2; simp at h1; done) | (exfalso; rename_i h1; simp at h1; done) | (exfalso; rename_i h1 h2 h3; simp at h1; done) | skip
    all_goals done

theorem open_flo {t e : TypeId} {n : Nat} {v : Value} {y : DataW H × List MemPlace} (ht : P.underlying t = some (.slice e)) (hc : P.cellsOf e = 1) (he : P.underlying e = some (.float .f64))
    (h : DataW.trod enc P w base spare held n t [v] = some y) : ∃ A c l, v = .slice A l.length c ∧ l.length ≤ c ∧ c < 9223372036854775808 ∧ Wds l ∧ Row w A (f64s l) := by
  rcases open_slice1 ht hc h with ⟨h0, _⟩ | ⟨a, len, cap, m, n, V, D, Pl, hcs, hb, hl, hm, hmm, hx, hi⟩
  · refine ⟨none, 0, [], ?_, by simp, by decide, (fun b hb => by cases hb), .inl rfl⟩
    simpa using h0
  · have hle : len ≤ m := by rw [hmm]; split <;> omega
    have hb' : ∀ i, i < len → ∃ b : Nat, V i = .float .f64 b ∧ b < 18446744073709551616 := fun i h => trod_float he (hi i (by omega)).2
    obtain ⟨B, hB⟩ := choose_lt (α := Nat) (p := fun i b => V i = .float .f64 b ∧ b < 18446744073709551616) hb'
    have hcap : cap < 9223372036854775808 := by unfold maxLen at hm; omega
    refine ⟨some a, cap, (List.range len).map B, by simpa using hcs, by simpa using hl, hcap, ?_, ?_⟩
    · intro b hb
      obtain ⟨i, hi1, rfl⟩ := List.mem_map.1 hb
      exact (hB i (List.mem_range.1 hi1)).2
    · by_cases hz : len = 0
      · subst hz; exact .inl rfl
      · have h0 := (hi 0 (by omega)).1
        obtain ⟨b, o, s⟩ := a
        have hs : s = none := by
          cases s with
          | none => rfl
          | some s => exfalso; simp [Addr.add, World.cell?] at h0; split at h0 <;> cases h0
        subst hs
        refine .inr ⟨b, o, rfl, fun i v hv => ?_⟩
        obtain ⟨hi1, rfl⟩ := f64s_get? hv
        have hil : i < len := by simpa using hi1
        have := (hi i (by omega)).1
        rw [(hB i hil).1] at this
        rw [add_plain] at this
        rw [this]; simp
theorem trod_i64 {e : TypeId} {n : Nat} {v : Value} {y : DataW H × List MemPlace} (he : P.underlying e = some (.int .i64)) (h : DataW.trod enc P w base spare held n e [v] = some y) : ∃ z : Int, v = .int .i64 z ∧ I64 z := by
  obtain ⟨m, hv, _, hw⟩ := DataW.trod_int he h
  refine ⟨m, by simpa using hv, ?_⟩
  simp [Lit.wf, IntKind.min, IntKind.max, IntKind.signed, IntKind.bits] at hw
  unfold I64; omega

theorem open_mat {t : TypeId} {f0 f1 f2 f3 f4 : Field} {e : TypeId} {v : Value} {d : DataW H} {p : List MemPlace} {r : Reach} {b0 : Nat} (hs : P.underlying t = some (.struct #[f0, f1, f2, f3, f4])) (hone : oneCellFields P #[f0, f1, f2, f3, f4] = true) (hC : P.cellsOf t = 5)
    (h0 : P.underlying f0.type = some (.slice e)) (hc : P.cellsOf e = 1) (he : P.underlying e = some (.float .f64)) (h1 : P.underlying f1.type = some (.int .i64)) (h2 : P.underlying f2.type = some (.int .i64)) (h3 : P.underlying f3.type = some (.int .i64)) (h4 : P.underlying f4.type = some (.int .i64))
    (hv : Value.okWide P w r b0 t v) (h : DataW.Trod enc P w base spare held t v d p) :
    ∃ A c l off r k ld, v = mat A l.length c off r k ld ∧ l.length ≤ c ∧ c < 9223372036854775808 ∧ Wds l ∧ Row w A (f64s l) ∧ I64 off ∧ I64 r ∧ I64 k ∧ I64 ld := by
  obtain ⟨cs, rfl, hsz⟩ := okWide_struct hs hv
  obtain ⟨ls⟩ := cs
  match ls, hsz.trans hC with
  | [c0, c1, c2, c3, c4], _ =>
    obtain ⟨fuel, hf⟩ := h
    obtain ⟨xs, n, _, hx, _, hlen, hg⟩ := DataW.trod_struct hs hf
    obtain ⟨o0, k0⟩ := hone_of hone 0 f0 rfl
    obtain ⟨o1, k1⟩ := hone_of hone 1 f1 rfl
    obtain ⟨o2, k2⟩ := hone_of hone 2 f2 rfl
    obtain ⟨o3, k3⟩ := hone_of hone 3 f3 rfl
    obtain ⟨o4, k4⟩ := hone_of hone 4 f4 rfl
    match xs, hlen with
    | [y0, y1, y2, y3, y4], _ =>
      have g0 : DataW.trod enc P w base spare held n f0.type [c0] = some y0 := by simpa [Value.cells, o0, k0] using hg 0 f0 rfl
      have g1 : DataW.trod enc P w base spare held n f1.type [c1] = some y1 := by simpa [Value.cells, o1, k1] using hg 1 f1 rfl
      have g2 : DataW.trod enc P w base spare held n f2.type [c2] = some y2 := by simpa [Value.cells, o2, k2] using hg 2 f2 rfl
      have g3 : DataW.trod enc P w base spare held n f3.type [c3] = some y3 := by simpa [Value.cells, o3, k3] using hg 3 f3 rfl
      have g4 : DataW.trod enc P w base spare held n f4.type [c4] = some y4 := by simpa [Value.cells, o4, k4] using hg 4 f4 rfl
      obtain ⟨A, c, l, rfl, q1, q2, q3, q4⟩ := open_flo h0 hc he g0
      obtain ⟨z1, rfl, i1⟩ := trod_i64 h1 g1
      obtain ⟨z2, rfl, i2⟩ := trod_i64 h2 g2
      obtain ⟨z3, rfl, i3⟩ := trod_i64 h3 g3
      obtain ⟨z4, rfl, i4⟩ := trod_i64 h4 g4
      exact ⟨A, c, l, z1, z2, z3, z4, rfl, q1, q2, q3, q4, i1, i2, i3, i4⟩
end
end Go.Proofs.Ytelpdbkkefpjhaa
