/-
Arguments that are lists of ints, and bools, opened. Conditions: none.
-/
import Derived.Test.YtcdhpoikppfjkaaZAVwO
import Derived.Test.YtcdhpoikppfjkaaWbac
import Derived.Laws.FloatArith
import Derived.Deep.Draws
set_option linter.unusedVariables false
namespace Go.Proofs.Ytcdhpoikppfjkaa
open Go.RowKit Go.WideShapes Go.ChangeShapes Go.Deep

/-- The cells of a list of ints. -/
def i64s (l : List Int) : List Value := l.map fun (z : Int) => Value.int .i64 z
theorem i64s_get (l : List Int) (i : Nat) (h : i < l.length) : (i64s l)[i]? = some (.int .i64 l[i]) := by simp [i64s, h]
section
variable {H : Type} {enc : TypeId × Value → H} {P : Program} {w : World} {base : Nat} {spare : Nat → Bool} {held : Bool}
end
end Go.Proofs.Ytcdhpoikppfjkaa
/-
An argument that is a byte, opened (OpB's, without its places). Conditions: none.
-/
set_option linter.unusedVariables false
namespace Go.Proofs.Ytcdhpoikppfjkaa
open Go.RowKit Go.WideShapes Go.ChangeShapes Go.Deep
section
variable {H : Type} {enc : TypeId × Value → H} {P : Program} {w : World} {base : Nat} {spare : Nat → Bool} {held : Bool}
theorem open_u8t {t : TypeId} {v : Value} {d : DataW H} {p : List MemPlace} {r : Reach} {b0 : Nat} (ht : P.underlying t = some (.int .u8)) (hv : Value.okWide P w r b0 t v) (h : DataW.Trod enc P w base spare held t v d p) : ∃ z : Nat, v = .int .u8 (z : Int) ∧ z < 256 := by
  obtain ⟨z, rfl, _, _, hw⟩ := open_int ht hv h
  simp [Lit.wf, IntKind.min, IntKind.max, IntKind.signed, IntKind.bits] at hw
  exact ⟨z.toNat, by rw [Int.toNat_of_nonneg (by omega)], by omega⟩
end
end Go.Proofs.Ytcdhpoikppfjkaa
/-
Sums, differences, products, quotients of floats, as a walk has them: one word up to which NaN it is. Conditions: none.
-/
set_option linter.unusedVariables false
namespace Go.Proofs.Ytcdhpoikppfjkaa
open Go.RowKit

/-- A NaN's word. -/
def NANW : Nat := 9221120237041090561
theorem nanw_nan : Fl.nan NANW = true := by decide
theorem nanw_lt : NANW < 18446744073709551616 := by decide
/-- The word of an operation, all that aren't numbers being one. -/
def fbin (op : BinOp) (x y : Nat) : Nat := (floatBits op .f64 x y).getD NANW
/-- r is the number z: the same word, or both are NaN. -/
def Is (r z : Nat) : Prop := r < 18446744073709551616 ∧ (r = z ∨ (Fl.nan r = true ∧ Fl.nan z = true))
theorem Is.lt {r z : Nat} (h : Is r z) : r < 18446744073709551616 := h.1
theorem Is.refl {r : Nat} (h : r < 18446744073709551616) : Is r r := ⟨h, .inl rfl⟩
theorem Is.same {r s z : Nat} (h : Is r z) (k : Is s z) : sameB r s = true := by
  unfold sameB
  rcases h with ⟨_, rfl | ⟨h1, h2⟩⟩ <;> rcases k with ⟨_, rfl | ⟨k1, k2⟩⟩ <;> simp_all
theorem Is.nan {r z : Nat} (h : Is r z) : Fl.nan r = Fl.nan z := by
  rcases h with ⟨_, rfl | ⟨h1, h2⟩⟩
  · rfl
  · rw [h1, h2]
theorem Is.eq_of {r z : Nat} (h : Is r z) (hz : Fl.nan z = false) : r = z := by
  rcases h with ⟨_, rfl | ⟨h1, h2⟩⟩
  · rfl
  · rw [hz] at h2; cases h2
theorem Is.trans {r s z : Nat} (h : Is r s) (k : Is s z) : Is r z := by
  refine ⟨h.1, ?_⟩
  rcases h with ⟨_, rfl | ⟨h1, h2⟩⟩
  · exact k.2
  · exact .inr ⟨h1, by rw [← k.nan]; exact h2⟩
theorem nan_rung {b : Nat} : Fl.nan b = true ↔ Fl.INF < Fl.rung b := by unfold Fl.nan; simp
theorem read_of_nan {b : Nat} (h : Fl.nan b = true) : Ieee.double.read b = .nan (Fl.sg b) (Fl.rung b - Fl.INF) := Fl.read_nan (nan_rung.1 h)
/-- Is it a sum, a difference, a product, a quotient? -/
def isAr : BinOp → Bool | .add => true | .sub => true | .mul => true | .quo => true | _ => false
theorem fbin_nan_left {op : BinOp} {x y : Nat} (h : Fl.nan x = true) : floatBits op .f64 x y = none := by
  have hr := read_of_nan h
  unfold floatBits
  cases op <;> simp only [FloatKind.format, Ieee.Format.add, Ieee.Format.sub, Ieee.Format.mul, Ieee.Format.div, hr] <;> (first | rfl | (cases Ieee.double.read y <;> rfl))
theorem fbin_nan_right {op : BinOp} {x y : Nat} (h : Fl.nan y = true) : floatBits op .f64 x y = none := by
  have hr := read_of_nan h
  unfold floatBits
  cases op <;> simp only [FloatKind.format, Ieee.Format.add, Ieee.Format.sub, Ieee.Format.mul, Ieee.Format.div, hr] <;> (first | rfl | (cases Ieee.double.read x <;> rfl))
theorem fbits_lt {op : BinOp} {x y r : Nat} (h : floatBits op .f64 x y = some r) : r < 18446744073709551616 := by
  have := floatBits_wf h
  simpa [Lit.wf] using this
theorem fbin_lt (op : BinOp) (x y : Nat) : fbin op x y < 18446744073709551616 := by
  unfold fbin
  cases h : floatBits op .f64 x y with
  | none => exact nanw_lt
  | some r => exact fbits_lt h
/-- r is what the operation comes to. -/
def Comes (op : BinOp) (x y r : Nat) : Prop := r < 18446744073709551616 ∧ (floatBits op .f64 x y = some r ∨ (floatBits op .f64 x y = none ∧ Fl.nan r = true))
theorem Comes.is_ {op : BinOp} {x y r a b : Nat} (h : Comes op x y r) (hx : Is x a) (hy : Is y b) : Is r (fbin op a b) := by
  refine ⟨h.1, ?_⟩
  have key : floatBits op .f64 x y = floatBits op .f64 a b := by
    rcases hx with ⟨_, rfl | ⟨h1, h2⟩⟩
    · rcases hy with ⟨_, rfl | ⟨k1, k2⟩⟩
      · rfl
      · rw [fbin_nan_right k1, fbin_nan_right k2]
    · rw [fbin_nan_left h1, fbin_nan_left h2]
  unfold fbin
  rw [← key]
  rcases h.2 with h | ⟨h, hn⟩
  · left; rw [h]; rfl
  · right; rw [h]; exact ⟨hn, nanw_nan⟩

/-! ### As the walk has them. -/
/-- The NaN that the tape gives. -/
def tapeNan (w : World) (x y : Nat) : Nat := Question.cut (.nanBits .f64 x y) (w.tape w.drawn (.nanBits .f64 x y))
theorem tapeNan_lt (w : World) (x y : Nat) : tapeNan w x y < 18446744073709551616 ∧ Fl.nan (tapeNan w x y) = true := by
  unfold tapeNan
  generalize w.tape w.drawn (.nanBits .f64 x y) = t
  have e : Question.cut (.nanBits .f64 x y) t = (t % 2) * 9223372036854775808 + (9218868437227405312 + 1 + t / 2 % 4503599627370495) := by
    show (t % 2) * 2 ^ 63 + 0x7ff0000000000000 + 1 + (t / 2) % (2 ^ 52 - 1) = _
    omega
  rw [e]
  have h1 : t % 2 < 2 := Nat.mod_lt _ (by omega)
  have h2 : t / 2 % 4503599627370495 < 4503599627370495 := Nat.mod_lt _ (by omega)
  generalize t / 2 % 4503599627370495 = q at *
  generalize t % 2 = s at *
  refine ⟨by omega, ?_⟩
  rw [nan_rung]
  unfold Fl.rung
  rw [Fl.INF_val]
  omega
/-- What the operation gives in a world. -/
def fres (op : BinOp) (w : World) (x y : Nat) : Nat := (floatBits op .f64 x y).getD (tapeNan w x y)
/-- How often it asks the tape. -/
def fdrw (op : BinOp) (x y : Nat) : Nat := if (floatBits op .f64 x y).isSome then 0 else 1
theorem fres_comes (op : BinOp) (w : World) (x y : Nat) : Comes op x y (fres op w x y) := by
  unfold fres Comes
  cases h : floatBits op .f64 x y with
  | some r => exact ⟨fbits_lt h, .inl rfl⟩
  | none => exact ⟨(tapeNan_lt w x y).1, .inr ⟨rfl, (tapeNan_lt w x y).2⟩⟩
theorem run_far (P : Program) (op : BinOp) (hop : isAr op = true) (t : TypeId) (x y : Nat) (w : World) : (binOp op t (.float .f64 x) (.float .f64 y)).run P w = .ok (.float .f64 (fres op w x y)) (w.drewN (fdrw op x y)) := by
  unfold fres fdrw
  cases h : floatBits op .f64 x y with
  | some r => exact run_float_arith w op t .f64 x y r h
  | none =>
    unfold floatBits at h
    cases op <;> simp only [isAr] at hop <;> first | (cases hop; done) | skip
    all_goals
      simp only at h
      simp only [binOp, Op.floatArith, h, tapeNan]
      rfl
theorem run_fadd (P : Program) (t : TypeId) (x y : Nat) (w : World) : (binOp .add t (.float .f64 x) (.float .f64 y)).run P w = .ok (.float .f64 (fres .add w x y)) (w.drewN (fdrw .add x y)) := run_far P .add rfl t x y w
theorem run_fsub (P : Program) (t : TypeId) (x y : Nat) (w : World) : (binOp .sub t (.float .f64 x) (.float .f64 y)).run P w = .ok (.float .f64 (fres .sub w x y)) (w.drewN (fdrw .sub x y)) := run_far P .sub rfl t x y w
theorem run_fmul (P : Program) (t : TypeId) (x y : Nat) (w : World) : (binOp .mul t (.float .f64 x) (.float .f64 y)).run P w = .ok (.float .f64 (fres .mul w x y)) (w.drewN (fdrw .mul x y)) := run_far P .mul rfl t x y w
theorem run_fquo (P : Program) (t : TypeId) (x y : Nat) (w : World) : (binOp .quo t (.float .f64 x) (.float .f64 y)).run P w = .ok (.float .f64 (fres .quo w x y)) (w.drewN (fdrw .quo x y)) := run_far P .quo rfl t x y w
attribute [go_sem] run_fadd run_fsub run_fmul run_fquo
end Go.Proofs.Ytcdhpoikppfjkaa
