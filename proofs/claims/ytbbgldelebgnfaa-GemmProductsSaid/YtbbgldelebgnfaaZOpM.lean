/-
An argument that is a list of matrices, opened. Conditions: none.
-/
import Derived.Test.YtbbgldelebgnfaaZGfA
import Derived.Test.YtbbgldelebgnfaaZVwQ
set_option linter.unusedVariables false
namespace Go.Proofs.Ytbbgldelebgnfaa
open Go.RowKit Go.WideShapes Go.ChangeShapes Go.Deep

section
variable {H : Type} {enc : TypeId × Value → H} {P : Program} {w : World} {base : Nat} {spare : Nat → Bool} {held : Bool}
/-- A matrix as it lies, but for what is frozen; the place of its list is among those that are read. -/
structure M5.Raw (x : M5) (w : World) (p : List MemPlace) : Prop where
  lc : x.l.length ≤ x.c
  cb : x.c < 9223372036854775808
  wds : Wds x.l
  row : Row w x.A (f64s x.l)
  io : I64 x.o
  ir : I64 x.r
  ik : I64 x.k
  iL : I64 x.L
  pl : ∀ b o, x.A = some ⟨b, o, none⟩ → x.l ≠ [] → MemPlace.cell b o ∈ p
theorem M5.Raw.ok {x : M5} {w : World} {p : List MemPlace} (h : x.Raw w p) (hf : ∀ b o, MemPlace.cell b o ∈ p → w.frozen? ⟨b, o, none⟩ = false) : x.Ok w :=
  ⟨h.lc, h.cb, h.wds, h.row, h.io, h.ir, h.ik, h.iL, fun b o e hl => hf b o (h.pl b o e hl)⟩
theorem M5.Raw.mono {x : M5} {w : World} {p q : List MemPlace} (h : x.Raw w p) (hp : ∀ a ∈ p, a ∈ q) : x.Raw w q :=
  ⟨h.lc, h.cb, h.wds, h.row, h.io, h.ir, h.ik, h.iL, fun b o e hl => hp _ (h.pl b o e hl)⟩
theorem open_m5 {t : TypeId} {f0 f1 f2 f3 f4 : Field} {e : TypeId} {n : Nat} {cs : List Value} {y : DataW H × List MemPlace} (hs : P.underlying t = some (.struct #[f0, f1, f2, f3, f4])) (hone : oneCellFields P #[f0, f1, f2, f3, f4] = true) (hlen5 : cs.length = 5)
    (h0 : P.underlying f0.type = some (.slice e)) (hc : P.cellsOf e = 1) (he : P.underlying e = some (.float .f64)) (h1 : P.underlying f1.type = some (.int .i64)) (h2 : P.underlying f2.type = some (.int .i64)) (h3 : P.underlying f3.type = some (.int .i64)) (h4 : P.underlying f4.type = some (.int .i64))
    (hf : DataW.trod enc P w base spare held n t cs = some y) : ∃ x : M5, cs = x.cells ∧ x.Raw w y.2 := by
  match cs, hlen5 with
  | [c0, c1, c2, c3, c4], _ =>
    obtain ⟨xs, n, _, hx, _, hlen, hg⟩ := DataW.trod_struct hs hf
    obtain ⟨o0, k0⟩ := hone_of hone 0 f0 rfl
    obtain ⟨o1, k1⟩ := hone_of hone 1 f1 rfl
    obtain ⟨o2, k2⟩ := hone_of hone 2 f2 rfl
    obtain ⟨o3, k3⟩ := hone_of hone 3 f3 rfl
    obtain ⟨o4, k4⟩ := hone_of hone 4 f4 rfl
    match xs, hlen with
    | [y0, y1, y2, y3, y4], _ =>
      have g0 : DataW.trod enc P w base spare held n f0.type [c0] = some y0 := by simpa [o0, k0] using hg 0 f0 rfl
      have g1 : DataW.trod enc P w base spare held n f1.type [c1] = some y1 := by simpa [o1, k1] using hg 1 f1 rfl
      have g2 : DataW.trod enc P w base spare held n f2.type [c2] = some y2 := by simpa [o2, k2] using hg 2 f2 rfl
      have g3 : DataW.trod enc P w base spare held n f3.type [c3] = some y3 := by simpa [o3, k3] using hg 3 f3 rfl
      have g4 : DataW.trod enc P w base spare held n f4.type [c4] = some y4 := by simpa [o4, k4] using hg 4 f4 rfl
      obtain ⟨A, c, l, rfl, q1, q2, q3, q4⟩ := open_flo h0 hc he g0
      obtain ⟨z1, rfl, i1⟩ := trod_i64 h1 g1
      obtain ⟨z2, rfl, i2⟩ := trod_i64 h2 g2
      obtain ⟨z3, rfl, i3⟩ := trod_i64 h3 g3
      obtain ⟨z4, rfl, i4⟩ := trod_i64 h4 g4
      refine ⟨⟨A, l, c, z1, z2, z3, z4⟩, rfl, ⟨q1, q2, q3, q4, i1, i2, i3, i4, fun b o e hl => ?_⟩⟩
      have e' : A = some ⟨b, o, none⟩ := e
      subst e'
      have hm := flo_place h0 hc g0 (List.length_pos_iff.2 hl)
      subst hx
      simp [hm]
theorem open_mats {t e s : TypeId} {f0 f1 f2 f3 f4 : Field} {v : Value} {d : DataW H} {p : List MemPlace} {r : Reach} {b0 : Nat} (ht : P.underlying t = some (.slice e)) (hC : P.cellsOf e = 5) (hs : P.underlying e = some (.struct #[f0, f1, f2, f3, f4])) (hone : oneCellFields P #[f0, f1, f2, f3, f4] = true)
    (h0 : P.underlying f0.type = some (.slice s)) (hc : P.cellsOf s = 1) (he : P.underlying s = some (.float .f64)) (h1 : P.underlying f1.type = some (.int .i64)) (h2 : P.underlying f2.type = some (.int .i64)) (h3 : P.underlying f3.type = some (.int .i64)) (h4 : P.underlying f4.type = some (.int .i64))
    (hv : Value.okWide P w r b0 t v) (h : DataW.Trod enc P w base spare held t v d p) :
    ∃ A c, ∃ l : List M5, v = .slice A l.length c ∧ l.length ≤ c ∧ c < 9223372036854775808 ∧ Ml w A l ∧ ∀ x ∈ l, x.Raw w p := by
  obtain ⟨a, len, cap, rfl⟩ := okWide_slice ht hv
  obtain ⟨fuel, hf⟩ := h
  have hf' : DataW.trod enc P w base spare held fuel t [.slice a len cap] = some (d, p) := by simpa [Value.cells] using hf
  rcases open_slice ht hf' with ⟨h0, _⟩ | ⟨a, len, cap, m, n, D, Pl, hcs, hb, hl, hm, hmm, hx, hi⟩
  · refine ⟨none, 0, [], ?_, by simp, by decide, .inl rfl, fun x hx => by cases hx⟩
    simpa using h0
  · have hle : len ≤ m := by rw [hmm]; split <;> omega
    have hcap : cap < 9223372036854775808 := by unfold maxLen at hm; omega
    have hb' : ∀ i, i < len → ∃ x : M5, (∀ j, j < 5 → w.cell? (a.add (i * 5 + j)) = x.cells[j]?) ∧ x.Raw w (Pl i) := fun i h => by
      obtain ⟨cs', c1, c2⟩ := hi i (by omega)
      rw [hC] at c1
      obtain ⟨_, hlen, hcell⟩ := World.cells?_some c1
      obtain ⟨x, rfl, hx⟩ := open_m5 hs hone hlen h0 hc he h1 h2 h3 h4 c2
      refine ⟨x, fun j hj => ?_, hx⟩
      have := hcell j hj
      rw [← this, add_add]
    obtain ⟨B, hB⟩ := choose_lt (α := M5) hb'
    refine ⟨some a, cap, (List.range len).map B, by simpa using hcs, by simpa using hl, hcap, ?_, ?_⟩
    · by_cases hz : len = 0
      · subst hz; exact .inl rfl
      · obtain ⟨b, o, s⟩ := a
        have h0 := (hB 0 (by omega)).1 0 (by omega)
        have hs : s = none := by
          cases s with
          | none => rfl
          | some s => exfalso; simp [Addr.add, World.cell?, M5.cells] at h0; split at h0 <;> cases h0
        subst hs
        refine .inr ⟨b, o, rfl, fun i v hv => ?_⟩
        have hlm : ((List.range len).map B).length = len := by simp
        have hil : i < len * 5 := by
          rcases Nat.lt_or_ge i (len * 5) with h | h
          · exact h
          · rw [List.getElem?_eq_none (by rw [m5s_length, hlm]; exact h)] at hv; cases hv
        have hq : i / 5 < len := by omega
        have hj : i % 5 < 5 := by omega
        have e5 : i / 5 * 5 + i % 5 = i := by omega
        have := (hB (i / 5) hq).1 (i % 5) hj
        have g := m5s_get ((List.range len).map B) (i / 5) (i % 5) (by rw [hlm]; exact hq) hj
        rw [e5] at this g
        rw [g] at hv
        have hel : ((List.range len).map B)[i / 5]'(by rw [hlm]; exact hq) = B (i / 5) := by simp
        rw [hel] at hv
        rw [hv] at this
        rw [add_plain] at this
        exact this
    · intro x hx'
      obtain ⟨i, hi1, rfl⟩ := List.mem_map.1 hx'
      have hil := List.mem_range.1 hi1
      refine (hB i hil).2.mono fun q hq => ?_
      injection hx with hd hp
      rw [hp]
      exact List.mem_append_right _ (List.mem_flatMap.2 ⟨i, List.mem_range.2 (by omega), hq⟩)
end
end Go.Proofs.Ytbbgldelebgnfaa
