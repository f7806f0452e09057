/-
Lists of matrices, as they lie in memory. Conditions: as each says.
-/
import Derived.Test.YtbbgldelebgnfaaUaad
import Derived.Test.YtbbgldelebgnfaaZMem
set_option linter.unusedVariables false
namespace Go.Proofs.Ytbbgldelebgnfaa
open Go.RowKit

/-- A matrix as it lies. -/
structure M5 where
  A : Option Addr
  l : List Nat
  c : Nat
  o : Int
  r : Int
  k : Int
  L : Int
instance : Inhabited M5 := ⟨⟨none, [], 0, 0, 0, 0, 0⟩⟩
def M5.cells (x : M5) : List Value := [.slice x.A x.l.length x.c, .int .i64 x.o, .int .i64 x.r, .int .i64 x.k, .int .i64 x.L]
def M5.val (x : M5) : Value := mat x.A x.l.length x.c x.o x.r x.k x.L
/-- Its list lies in memory, not frozen; its ints are ints. -/
structure M5.Ok (x : M5) (w : World) : Prop where
  lc : x.l.length ≤ x.c
  cb : x.c < 9223372036854775808
  wds : Wds x.l
  row : Row w x.A (f64s x.l)
  io : I64 x.o
  ir : I64 x.r
  ik : I64 x.k
  iL : I64 x.L
  fz : ∀ b o, x.A = some ⟨b, o, none⟩ → x.l ≠ [] → w.frozen? ⟨b, o, none⟩ = false
theorem row_place {w : World} {A : Option Addr} {l : List Nat} (h : Row w A (f64s l)) (hl : l ≠ []) {b o : Nat} (e : A = some ⟨b, o, none⟩) : b < w.heap.size := by
  have h0 : 0 < l.length := List.length_pos_iff.2 hl
  obtain ⟨b', o', e', hlt, _⟩ := h.at_ (f64s_get l 0 h0)
  rw [e] at e'
  injection e' with e'
  injection e' with e1 e2
  subst e1
  exact hlt
theorem M5.Ok.below {x : M5} {w w' : World} (h : x.Ok w) (hb : Below w.heap.size w w') : x.Ok w' :=
  ⟨h.lc, h.cb, h.wds, h.row.below hb, h.io, h.ir, h.ik, h.iL, fun b o e hl => (hb.frozen (p := ⟨b, o, none⟩) (row_place h.row hl e)).trans (h.fz b o e hl)⟩
/-- The cells of a list of matrices. -/
def m5s (l : List M5) : List Value := l.flatMap M5.cells
theorem m5s_length (l : List M5) : (m5s l).length = l.length * 5 := by
  induction l with
  | nil => rfl
  | cons x l ih => show (x.cells ++ m5s l).length = _; rw [List.length_append, ih, show x.cells.length = 5 from rfl, List.length_cons]; omega
theorem m5s_get (l : List M5) (i j : Nat) (hi : i < l.length) (hj : j < 5) : (m5s l)[i * 5 + j]? = l[i].cells[j]? := by
  induction l generalizing i with
  | nil => simp at hi
  | cons x l ih =>
    show (x.cells ++ m5s l)[i * 5 + j]? = _
    have hx : x.cells.length = 5 := rfl
    cases i with
    | zero => rw [List.getElem?_append_left (by rw [hx]; omega)]; simp
    | succ i =>
      rw [List.getElem?_append_right (by rw [hx]; omega), hx, show (i + 1) * 5 + j - 5 = i * 5 + j by omega, ih i (by simpa using hi)]
      simp
theorem m5s_drop (l : List M5) (k : Nat) (hk : k ≤ l.length) : m5s (l.drop k) = (m5s l).drop (k * 5) := by
  have e : m5s l = m5s (l.take k) ++ m5s (l.drop k) := by unfold m5s; rw [← List.flatMap_append, List.take_append_drop]
  have hl : (m5s (l.take k)).length = k * 5 := by rw [m5s_length, List.length_take]; omega
  rw [e, List.drop_left' hl]
/-- Matrices lie so, one behind the other. -/
def Ml (w : World) (A : Option Addr) (l : List M5) : Prop := Row w A (m5s l)
theorem Ml.below {w w' : World} {A : Option Addr} {l : List M5} (h : Ml w A l) (hb : Below w.heap.size w w') : Ml w' A l := Row.below h hb
theorem Ml.at_ {w : World} {A : Option Addr} {l : List M5} (h : Ml w A l) {i : Nat} (hi : i < l.length) :
    ∃ b o, A = some ⟨b, o, none⟩ ∧ w.cell? ⟨b, o + i * 5, none⟩ = some (.slice l[i].A l[i].l.length l[i].c) ∧ w.cell? ⟨b, o + i * 5 + 1, none⟩ = some (.int .i64 l[i].o) ∧
      w.cell? ⟨b, o + i * 5 + 2, none⟩ = some (.int .i64 l[i].r) ∧ w.cell? ⟨b, o + i * 5 + 3, none⟩ = some (.int .i64 l[i].k) ∧ w.cell? ⟨b, o + i * 5 + 4, none⟩ = some (.int .i64 l[i].L) := by
  have g : ∀ j, j < 5 → (m5s l)[i * 5 + j]? = l[i].cells[j]? := fun j hj => m5s_get l i j hi hj
  rcases h with h | ⟨b, o, e, hc⟩
  · have := m5s_length l
    rw [h] at this
    simp only [List.length_nil] at this
    omega
  · have c0 := hc (i * 5) (.slice l[i].A l[i].l.length l[i].c) (by have := g 0 (by omega); rw [Nat.add_zero] at this; rw [this]; rfl)
    refine ⟨b, o, e, c0, ?_, ?_, ?_, ?_⟩
    · exact hc (i * 5 + 1) _ (by rw [g 1 (by omega)]; rfl)
    · exact hc (i * 5 + 2) _ (by rw [g 2 (by omega)]; rfl)
    · exact hc (i * 5 + 3) _ (by rw [g 3 (by omega)]; rfl)
    · exact hc (i * 5 + 4) _ (by rw [g 4 (by omega)]; rfl)
end Go.Proofs.Ytbbgldelebgnfaa
