/-
What the functions on one float come to that use no memory: Same, Parts, Len64, digits, cut, join, Up, Down. Conditions: the words are below 2^64.
-/
import Derived.Test.YtcdhpoikppfjkaaRows
import Derived.Test.YtcdhpoikppfjkaaWbab
import Derived.WalkKit
import Derived.WalkLawsBesides
import Derived.Laws.BitsAllLaws
import Derived.WalkSpells
import Derived.LoopTactic
import Derived.Outline
import Derived.Lib.Hide
import Derived.Laws.Externs
import Derived.Test.YtcdhpoikppfjkaaZAMem
import Derived.Deep.QuietTactic
import Derived.BigQuiet
import Derived.RegionTactic
set_option linter.unusedVariables false
namespace Go.Proofs.Ytcdhpoikppfjkaa
open Go.RowKit

theorem run_bits (b : Nat) (w : World) : (callFunc 41 #[.float .f64 b]).run Try.prog w = .ok (.value (.int .u64 (b : Int))) w := by kernel_rfl
attribute [go_sem] run_bits
theorem ret_bool {a b : Bool} (h : a = b) : Ending.returned (.bool a) = .returned (.bool b) := by rw [h]
/-- The two are the same number: by their bits, or both no number. -/
def sameB (a b : Nat) : Bool := decide (a = b) || Fl.nan a && Fl.nan b

/-- The kind of a word: 0 finite, 1 infinite, 2 no number. -/
def kindOf (b : Nat) : Int := if Fl.rung b < Fl.INF then 0 else if Fl.rung b = Fl.INF then 1 else 2
def partM (b : Nat) : Int := if Fl.rung b < Fl.INF then (Fl.pm b : Int) else 0
def partE (b : Nat) : Int := if Fl.rung b < Fl.INF then (Fl.pe b : Int) - 1074 else 0

theorem results_tmp4 {fn : Func} {t u v x : Tmp} (h : fn.results = #[.tmp t, .tmp u, .tmp v, .tmp x]) (tmps : Array Value) (P : Program) (w : World) :
    (results fn tmps).run P w = .ok (.tuple #[tmps.getD t undef, tmps.getD u undef, tmps.getD v undef, tmps.getD x undef]) w := by simp [results, h]
theorem ret_parts {s s' : Bool} {m m' e e' k k' : Int} (h1 : s = s') (h2 : m = m') (h3 : e = e') (h4 : k = k') :
    Ending.returned (.tuple #[.bool s, .int .u64 m, .int .i64 e, .int .i64 k]) = .returned (.tuple #[.bool s', .int .u64 m', .int .i64 e', .int .i64 k']) := by rw [h1, h2, h3, h4]
theorem sg_walk {b : Nat} (hb : b < 18446744073709551616) : ((b : Int) / 9223372036854775808 == 1) = Fl.sg b := by
  unfold Fl.sg
  rw [Bool.eq_iff_iff, beq_iff_eq, beq_iff_eq]; omega

theorem rung_def (b : Nat) : Fl.rung b = b % 9223372036854775808 := rfl
theorem pm_def (b : Nat) : Fl.pm b = if Fl.rung b < 4503599627370496 then Fl.rung b else 4503599627370496 + Fl.rung b % 4503599627370496 := rfl
theorem pe_def (b : Nat) : Fl.pe b = if Fl.rung b < 4503599627370496 then 0 else Fl.rung b / 4503599627370496 - 1 := rfl

theorem parts_any (b : Nat) (w : World) (hb : b < 18446744073709551616) :
    Calls Try.prog 40 #[.float .f64 b] w fun e w' => e = .returned (.tuple #[.bool (Fl.sg b), .int .u64 (partM b), .int .i64 (partE b), .int .i64 (kindOf b)]) ∧ w = w' := by
  go_enter Try.func40, Try.ntmps40
  go_wp2
  all_goals
    refine bodyPost_ret (results_tmp4 rfl _ _ _) rfl ?_
    have h1 := rung_def b
    have h2 := Fl.INF_val
    have h3 := pm_def b
    have h4 := pe_def b
    refine ⟨ret_parts (sg_walk hb) ?_ ?_ ?_, rfl⟩
    all_goals simp only [beq_iff_eq, beq_eq_false_iff_ne, ne_eq] at *
    · simp only [partM]
      split
      · rw [h3]; split <;> omega
      · first | rfl | omega
    · simp only [partE]; split
      · rw [h4]; split <;> omega
      · first | rfl | omega
    · simp only [kindOf]; (repeat' split) <;> first | rfl | omega
end Go.Proofs.Ytcdhpoikppfjkaa
/-
Vectors and matrices: which are right, by the program and by the document. Conditions: the numbers are of an int's range, the lists' lengths below 2^62.
-/
set_option linter.unusedVariables false
namespace Go.Proofs.Ytcdhpoikppfjkaa
open Go.RowKit

/-- An int's range. -/
def I64 (z : Int) : Prop := -9223372036854775808 ≤ z ∧ z < 9223372036854775808

theorem Blk.nxt {w w' : World} {g : Nat} {t : TypeId} {cs : Array Value} (h : Blk w g t cs) (hb : Below w.heap.size w w') : Blk w' g t cs := h.below hb h.lt
theorem cells5 {w : World} {g : Nat} {t : TypeId} {v0 v1 v2 v3 v4 : Value} (h : Blk w g t #[v0, v1, v2, v3, v4]) :
    w.cell? ⟨g, 0, none⟩ = some v0 ∧ w.cell? ⟨g, 1, none⟩ = some v1 ∧ w.cell? ⟨g, 2, none⟩ = some v2 ∧ w.cell? ⟨g, 3, none⟩ = some v3 ∧ w.cell? ⟨g, 4, none⟩ = some v4 :=
  ⟨h.cell 0, h.cell 1, h.cell 2, h.cell 3, h.cell 4⟩
/-- A matrix. -/
def mat (A : Option Addr) (n c : Nat) (off r k ld : Int) : Value := .agg #[.slice A n c, .int .i64 off, .int .i64 r, .int .i64 k, .int .i64 ld]
/-- Is the last of n numbers, from off on and inc apart, below L? -/
def reachB (L off n inc : Int) : Bool := decide (off + (n - 1) * inc < L)
theorem reach_iff {L off n inc : Int} (hinc : 1 ≤ inc) (hl : off < L) : (n - 1 ≤ (L - 1 - off) / inc) ↔ off + (n - 1) * inc < L := by
  rw [Int.le_ediv_iff_mul_le (by omega)]; omega

theorem wrap_id {z : Int} (h : I64 z) : wrap64 z = z := by unfold I64 at h; unfold wrap64; omega

theorem reaches_any (L off n inc : Int) (w : World) (hL : L < 9223372036854775808) (ho : 0 ≤ off ∧ off < 9223372036854775808) (hn : 1 ≤ n ∧ n < 9223372036854775808) (hi : 1 ≤ inc ∧ inc < 9223372036854775808) :
    Calls Try.prog 43 #[.int .i64 L, .int .i64 off, .int .i64 n, .int .i64 inc] w fun e w' => e = .returned (.bool (reachB L off n inc)) ∧ w = w' := by
  go_enter Try.func43, Try.ntmps43
  by_cases h1 : off < L
  · have d1 : decide (off < L) = true := by simp [h1]
    have e0 : (inc == 0) = false := by simp; omega
    have e1 : wrap64 (n - 1) = n - 1 := by unfold wrap64; omega
    have e2 : wrap64 (L - 1) = L - 1 := by unfold wrap64; omega
    have e3 : wrap64 (L - 1 - off) = L - 1 - off := by unfold wrap64; omega
    go_wp2
    all_goals
      go_ret
      exact ⟨ret_bool (decide_eq_decide.2 (reach_iff hi.1 h1)), rfl⟩
  · have d1 : decide (off < L) = false := by simp; omega
    have hle : 0 ≤ (n - 1) * inc := Int.mul_nonneg (by omega) (by omega)
    go_wp2
    all_goals
      go_ret
      exact ⟨ret_bool (decide_eq_false (by omega)).symm, rfl⟩

/-- Is a vector of k numbers in a list of n right? -/
def vecB (n : Nat) (off k inc : Int) : Bool := decide (0 ≤ k ∧ 1 ≤ inc ∧ 0 ≤ off ∧ (k = 0 ∨ off + (k - 1) * inc < n))
/-- Is a matrix of r rows and k columns in a list of n right? -/
def matB (n : Nat) (off r k ld : Int) : Bool := decide (0 ≤ r ∧ 0 ≤ k ∧ 1 ≤ ld ∧ r ≤ ld ∧ 0 ≤ off ∧ (r = 0 ∨ k = 0 ∨ off + (k - 1) * ld + (r - 1) < n))

theorem right_any (A : Option Addr) (n c : Nat) (off k inc : Int) (w : World) (hn : n < 9223372036854775808) (ho : I64 off) (hk : I64 k) (hi : I64 inc) :
    Calls Try.prog 48 #[.agg #[.slice A n c, .int .i64 off, .int .i64 k, .int .i64 inc]] w fun e w' => e = .returned (.bool (vecB n off k inc)) ∧ Below w.heap.size w w' := by
  unfold I64 at ho hk hi
  go_enter Try.func48, Try.ntmps48
  have hbel := fun (o : Obj) => (Below.refl w.heap.size w).alloc (Nat.le_refl _) o
  by_cases h1 : k < 0 ∨ inc < 1 ∨ off < 0
  · have hv : vecB n off k inc = false := decide_eq_false (by omega)
    go_wp2
    all_goals
      go_ret
      first | exact ⟨rfl, hbel _⟩ | exact ⟨ret_bool hv.symm, hbel _⟩
  · have d1 : decide (k < 0) = false := by simp; omega
    have d2 : decide (inc < 1) = false := by simp; omega
    have d3 : decide (off < 0) = false := by simp; omega
    by_cases h2 : k = 0
    · subst h2
      have hv : vecB n off 0 inc = true := decide_eq_true (by omega)
      go_wp2
      all_goals
        go_ret
        first | exact ⟨rfl, hbel _⟩ | exact ⟨ret_bool hv.symm, hbel _⟩
    · have d4 : (k == 0) = false := by simp [h2]
      have hv : reachB n off k inc = vecB n off k inc := decide_eq_decide.2 (by omega)
      go_wp2_with fail
      refine (reaches_any n off k inc _ (by omega) (by omega) (by omega) (by omega)).mono ?_
      rintro e w' ⟨rfl, rfl⟩
      go_wp2_with fail
      go_ret
      first | exact ⟨rfl, hbel _⟩ | exact ⟨ret_bool hv.symm, hbel _⟩

theorem none_any (A : Option Addr) (n c : Nat) (off r k ld : Int) (w : World) :
    Calls Try.prog 42 #[.agg #[.slice A n c, .int .i64 off, .int .i64 r, .int .i64 k, .int .i64 ld]] w fun e w' => e = .returned (.bool (r == 0 || k == 0)) ∧ Below w.heap.size w w' := by
  go_enter Try.func42, Try.ntmps42
  have hbel := fun (o : Obj) => (Below.refl w.heap.size w).alloc (Nat.le_refl _) o
  go_wp2
  all_goals
    go_ret
    exact ⟨ret_bool (by simp_all), hbel _⟩

theorem good_any (A : Option Addr) (n c : Nat) (off r k ld : Int) (w : World) (hn : n < 9223372036854775808) (ho : I64 off) (hr : I64 r) (hk : I64 k) (hi : I64 ld) :
    Calls Try.prog 29 #[.agg #[.slice A n c, .int .i64 off, .int .i64 r, .int .i64 k, .int .i64 ld]] w fun e w' => e = .returned (.bool (matB n off r k ld)) ∧ Below w.heap.size w w' := by
  unfold I64 at ho hr hk hi
  go_enter Try.func29, Try.ntmps29
  have hbel := fun (o : Obj) => (Below.refl w.heap.size w).alloc (Nat.le_refl _) o
  by_cases h1 : r < 0 ∨ k < 0 ∨ ld < max 1 r ∨ off < 0
  · have hv : matB n off r k ld = false := decide_eq_false (by omega)
    go_wp2
    all_goals
      go_ret
      first | exact ⟨rfl, hbel _⟩ | exact ⟨ret_bool hv.symm, hbel _⟩
  · have d1 : decide (r < 0) = false := by simp; omega
    have d2 : decide (k < 0) = false := by simp; omega
    have d3 : decide (ld < 1) = false := by simp; omega
    have d3' : decide (ld < r) = false := by simp; omega
    have d4 : decide (off < 0) = false := by simp; omega
    by_cases h2 : r = 0 ∨ k = 0
    · have d5 : (r == 0 || k == 0) = true := by simpa using h2
      have hv : matB n off r k ld = true := decide_eq_true (by omega)
      go_wp2_with fail
      all_goals
        refine (none_any A n c off r k ld _).mono ?_
        rintro e w' ⟨rfl, b1⟩
        go_wp2_with fail
        go_ret
        first | exact ⟨rfl, (hbel _).trans (b1.mono (by simp))⟩ | exact ⟨ret_bool hv.symm, (hbel _).trans (b1.mono (by simp))⟩
    · have d5 : (r == 0 || k == 0) = false := by simpa using h2
      have e1 : wrap64 (r - 1) = r - 1 := by unfold wrap64; omega
      have e2 : wrap64 ((n : Int) - (r - 1)) = (n : Int) - (r - 1) := by unfold wrap64; omega
      have hv : reachB ((n : Int) - (r - 1)) off k ld = matB n off r k ld := decide_eq_decide.2 (by omega)
      go_wp2_with fail
      all_goals
        refine (none_any A n c off r k ld _).mono ?_
        rintro e w' ⟨rfl, b1⟩
        obtain ⟨c0, c1, c2, c3, c4⟩ := cells5 ((Blk.new w 24 _).nxt b1)
        go_wp2_with fail
        refine (reaches_any _ off k ld _ (by omega) (by omega) (by omega) (by omega)).mono ?_
        rintro e w' ⟨rfl, rfl⟩
        go_wp2_with fail
        go_ret
        first | exact ⟨rfl, (hbel _).trans (b1.mono (by simp))⟩ | exact ⟨ret_bool hv.symm, (hbel _).trans (b1.mono (by simp))⟩

end Go.Proofs.Ytcdhpoikppfjkaa
