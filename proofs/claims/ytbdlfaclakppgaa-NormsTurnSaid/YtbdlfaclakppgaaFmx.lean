/-
The greatest of floats: max, as a walk has it, and what comes of it one by one. Conditions: none.
-/
import Derived.Test.YtbdlfaclakppgaaFa
import Derived.BigFrame
set_option linter.unusedVariables false
namespace Go.Proofs.Ytbdlfaclakppgaa
open Go.RowKit

/-- The NaN that the tape gives for max. -/
def tapeMax (w : World) (x y : Nat) : Nat := Question.cut (.nanMinMax .f64 true x y) (w.tape w.drawn (.nanMinMax .f64 true x y))
theorem tapeMax_lt (w : World) (x y : Nat) : tapeMax w x y < 18446744073709551616 ∧ Fl.nan (tapeMax w x y) = true := by
  unfold tapeMax
  generalize w.tape w.drawn (.nanMinMax .f64 true x y) = t
  have e : Question.cut (.nanMinMax .f64 true x y) t = (t % 2) * 9223372036854775808 + (9218868437227405312 + 1 + t / 2 % 4503599627370495) := by
    show (t % 2) * 2 ^ 63 + 0x7ff0000000000000 + 1 + (t / 2) % (2 ^ 52 - 1) = _
    omega
  rw [e]
  have h1 : t % 2 < 2 := Nat.mod_lt _ (by omega)
  have h2 : t / 2 % 4503599627370495 < 4503599627370495 := Nat.mod_lt _ (by omega)
  generalize t / 2 % 4503599627370495 = q at *
  generalize t % 2 = s at *
  refine ⟨by omega, ?_⟩
  rw [nan_rung]
  unfold Fl.rung
  rw [Fl.INF_val]
  omega
/-- What max gives in a world. -/
def fmaxR (w : World) (x y : Nat) : Nat :=
  match FloatKind.f64.format.order x y with
  | none => tapeMax w x y
  | some .lt => y
  | some .gt => x
  | some .eq => if (FloatKind.f64.decode x).neg then y else x
/-- How often it asks the tape. -/
def fmaxD (x y : Nat) : Nat := if (FloatKind.f64.format.order x y).isSome then 0 else 1
@[go_sem] theorem run_fmax (P : Program) (ts : Array TypeId) (t : TypeId) (x y : Nat) (w : World) : (Builtin.max_ ts t #[.float .f64 x, .float .f64 y]).run P w = .ok (.float .f64 (fmaxR w x y)) (w.drewN (fmaxD x y)) := by
  unfold fmaxR fmaxD
  simp only [Builtin.max_, Builtin.max2, List.foldlM]
  cases h : FloatKind.f64.format.order x y with
  | none => simp only [tapeMax]; rfl
  | some o => cases o <;> rfl

/-- The greatest of the first numbers and +0; no number, if one of them isn't. -/
def gF (l : List Nat) : Nat → Nat
  | 0 => 0
  | k + 1 => if Fl.nan (gF l k) || Fl.nan (l.getD k 0) then NANW else if FloatKind.f64.format.order (l.getD k 0) (gF l k) == some .gt then l.getD k 0 else gF l k
theorem le_inf {b : Nat} (h : Fl.nan b = false) : Fl.rung b ≤ Fl.INF := by
  unfold Fl.nan at h
  simpa using h
theorem gF_sg (l : List Nat) : ∀ k, Fl.nan (gF l k) = true ∨ Fl.sg (gF l k) = false
  | 0 => .inr (by unfold gF; decide)
  | k + 1 => by
    unfold gF
    split
    · exact .inl nanw_nan
    · rename_i h
      simp only [Bool.or_eq_true, not_or, Bool.not_eq_true] at h
      split
      · rename_i h2
        right
        rw [Fl.gtr_of (le_inf h.2) (le_inf h.1)] at h2
        have h3 := (gF_sg l k).resolve_left (by rw [h.1]; decide)
        have h4 : Fl.key (gF l k) < Fl.key (l.getD k 0) := by simpa using h2
        unfold Fl.key at h4
        rw [h3] at h4
        cases hs : Fl.sg (l.getD k 0)
        · rfl
        · rw [hs] at h4; simp at h4; omega
      · exact gF_sg l k
theorem gF_nan {l : List Nat} {k : Nat} (h : Fl.nan (gF l k) = true) : ∀ d, Fl.nan (gF l (k + d)) = true
  | 0 => h
  | d + 1 => by
    show Fl.nan (gF l (k + d + 1)) = true
    unfold gF
    rw [gF_nan h d]
    exact nanw_nan
theorem gF_nan_at {l : List Nat} {k n : Nat} (h : Fl.nan (l.getD k 0) = true) (hk : k < n) : Fl.nan (gF l n) = true := by
  obtain ⟨d, rfl⟩ : ∃ d, n = k + 1 + d := ⟨n - (k + 1), by omega⟩
  refine gF_nan ?_ d
  unfold gF
  rw [h, Bool.or_true]
  exact nanw_nan
theorem neg_sg {b : Nat} (h : Fl.nan b = false) : (FloatKind.f64.decode b).neg = Fl.sg b := by
  show (Ieee.double.read b).neg = Fl.sg b
  rw [Fl.read_eq]
  have := le_inf h
  split
  · rfl
  · split
    · rfl
    · split
      · rfl
      · omega
theorem max_step {l : List Nat} {k r a : Nat} (hr : Is r (gF l k)) (ha : l.getD k 0 = a) (hal : a < 18446744073709551616) (w : World) : Is (fmaxR w r a) (gF l (k + 1)) := by
  have hnone : FloatKind.f64.format.order r a = none → Fl.nan (gF l (k + 1)) = true → Is (fmaxR w r a) (gF l (k + 1)) := by
    intro h1 h2
    unfold fmaxR
    rw [h1]
    exact ⟨(tapeMax_lt w r a).1, .inr ⟨(tapeMax_lt w r a).2, h2⟩⟩
  cases hn : Fl.nan (gF l k)
  · have hrn : Fl.nan r = false := by rw [hr.nan]; exact hn
    have e := hr.eq_of hn
    cases hm : Fl.nan a
    · have hsg := (gF_sg l k).resolve_left (by rw [hn]; decide)
      unfold gF
      rw [ha, hn, hm]
      rw [Fl.gtr_of (le_inf hm) (le_inf hn)]
      unfold fmaxR
      rw [show FloatKind.f64.format.order r a = some (compare (Fl.key r) (Fl.key a)) from Fl.order_key (le_inf hrn) (le_inf hm)]
      rw [neg_sg hrn]
      subst e
      rw [hsg]
      cases hc : compare (Fl.key (gF l k)) (Fl.key a)
      · have := (Fl.cmp_lt _ _).1 hc
        simp [this]; exact Is.refl hal
      · have := (Fl.cmp_eq _ _).1 hc
        simp [this]; exact Is.refl hr.1
      · have := (Fl.cmp_gt _ _).1 hc
        have h2 : ¬ Fl.key (gF l k) < Fl.key a := by omega
        simp [h2]; exact Is.refl hr.1
    · refine hnone (Fl.order_nan_right (nan_rung.1 hm)) ?_
      unfold gF
      rw [ha, hm, Bool.or_true]
      exact nanw_nan
  · refine hnone (Fl.order_nan_left (nan_rung.1 (by rw [hr.nan]; exact hn))) ?_
    exact gF_nan hn 1
end Go.Proofs.Ytbdlfaclakppgaa
