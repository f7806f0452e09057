/-
Vectors and matrices: which are right, by the program and by the document. Conditions: the numbers are of an int's range, the lists' lengths below 2^62.
-/
import Derived.Test.YtelpdbkkefpjhaaZKMem
import Derived.Test.YtelpdbkkefpjhaaKNumA
import Derived.WalkLawsBesides
import Derived.WalkSpells
import Derived.LoopTactic
import Derived.Outline
import Derived.Deep.QuietTactic
import Derived.BigQuiet
import Derived.RegionTactic
set_option linter.unusedVariables false
namespace Go.Proofs.Ytelpdbkkefpjhaa
open Go.RowKit

/-- An int's range. -/
def I64 (z : Int) : Prop := -9223372036854775808 ≤ z ∧ z < 9223372036854775808

theorem Blk.nxt {w w' : World} {g : Nat} {t : TypeId} {cs : Array Value} (h : Blk w g t cs) (hb : Below w.heap.size w w') : Blk w' g t cs := h.below hb h.lt
theorem cells5 {w : World} {g : Nat} {t : TypeId} {v0 v1 v2 v3 v4 : Value} (h : Blk w g t #[v0, v1, v2, v3, v4]) :
    w.cell? ⟨g, 0, none⟩ = some v0 ∧ w.cell? ⟨g, 1, none⟩ = some v1 ∧ w.cell? ⟨g, 2, none⟩ = some v2 ∧ w.cell? ⟨g, 3, none⟩ = some v3 ∧ w.cell? ⟨g, 4, none⟩ = some v4 :=
  ⟨h.cell 0, h.cell 1, h.cell 2, h.cell 3, h.cell 4⟩
/-- A matrix. -/
def mat (A : Option Addr) (n c : Nat) (off r k ld : Int) : Value := .agg #[.slice A n c, .int .i64 off, .int .i64 r, .int .i64 k, .int .i64 ld]
/-- Is the last of n numbers, from off on and inc apart, below L? -/
def reachB (L off n inc : Int) : Bool := decide (off + (n - 1) * inc < L)
theorem reach_iff {L off n inc : Int} (hinc : 1 ≤ inc) (hl : off < L) : (n - 1 ≤ (L - 1 - off) / inc) ↔ off + (n - 1) * inc < L := by
  rw [Int.le_ediv_iff_mul_le (by omega)]; omega

theorem wrap_id {z : Int} (h : I64 z) : wrap64 z = z := by unfold I64 at h; unfold wrap64; omega

theorem reaches_any (L off n inc : Int) (w : World) (hL : L < 9223372036854775808) (ho : 0 ≤ off ∧ off < 9223372036854775808) (hn : 1 ≤ n ∧ n < 9223372036854775808) (hi : 1 ≤ inc ∧ inc < 9223372036854775808) :
    Calls Try.prog 52 #[.int .i64 L, .int .i64 off, .int .i64 n, .int .i64 inc] w fun e w' => e = .returned (.bool (reachB L off n inc)) ∧ w = w' := by
  go_enter Try.func52, Try.ntmps52
  by_cases h1 : off < L
  · have d1 : decide (off < L) = true := by simp [h1]
    have e0 : (inc == 0) = false := by simp; omega
    have e1 : wrap64 (n - 1) = n - 1 := by unfold wrap64; omega
    have e2 : wrap64 (L - 1) = L - 1 := by unfold wrap64; omega
    have e3 : wrap64 (L - 1 - off) = L - 1 - off := by unfold wrap64; omega
    go_wp2
    all_goals
      go_ret
      exact ⟨ret_bool (decide_eq_decide.2 (reach_iff hi.1 h1)), rfl⟩
  · have d1 : decide (off < L) = false := by simp; omega
    have hle : 0 ≤ (n - 1) * inc := Int.mul_nonneg (by omega) (by omega)
    go_wp2
    all_goals
      go_ret
      exact ⟨ret_bool (decide_eq_false (by omega)).symm, rfl⟩

/-- Is off + a b + c below n? -/
def belowB (n off a b c : Int) : Bool := decide (off + a * b + c < n)
theorem below_iff {n off a b c : Int} (ha : 1 ≤ a) (hb : 0 ≤ b) : b ≤ (n - off - c - 1) / a ↔ off + a * b + c < n := by
  rw [Int.le_ediv_iff_mul_le (by omega), Int.mul_comm]; omega

theorem rwithin_any (n off a b c : Int) (w : World) (hn : 0 ≤ n ∧ n < 9223372036854775808) (ho : 0 ≤ off ∧ off < 9223372036854775808) (ha : 0 ≤ a ∧ a < 9223372036854775808) (hb : 0 ≤ b ∧ b < 9223372036854775808) (hc : 0 ≤ c ∧ c < 9223372036854775808) :
    Calls Try.prog 32 #[.int .i64 n, .int .i64 off, .int .i64 a, .int .i64 b, .int .i64 c] w fun e w' => e = .returned (.bool (belowB n off a b c)) ∧ w = w' := by
  have hle : 0 ≤ a * b := Int.mul_nonneg (by omega) (by omega)
  go_enter Try.func32, Try.ntmps32
  by_cases h1 : n ≤ off
  · have d1 : decide (n ≤ off) = true := by simp [h1]
    go_wp2
    all_goals
      go_ret
      exact ⟨ret_bool (decide_eq_false (by omega)).symm, rfl⟩
  have d1 : decide (n ≤ off) = false := by simp; omega
  have e1 : wrap64 (n - off) = n - off := by unfold wrap64; omega
  by_cases h2 : n - off ≤ c
  · have d2 : decide (n - off ≤ c) = true := by simp [h2]
    go_wp2
    all_goals
      go_ret
      exact ⟨ret_bool (decide_eq_false (by omega)).symm, rfl⟩
  have d2 : decide (n - off ≤ c) = false := by simp; omega
  have e2 : wrap64 (n - off - c) = n - off - c := by unfold wrap64; omega
  have e3 : wrap64 (n - off - c - 1) = n - off - c - 1 := by unfold wrap64; omega
  by_cases h3 : a = 0
  · subst h3
    go_wp2
    all_goals
      go_ret
      exact ⟨ret_bool (decide_eq_true (by omega)).symm, rfl⟩
  · have d3 : (a == 0) = false := by simp [h3]
    go_wp2
    all_goals
      go_ret
      exact ⟨ret_bool (decide_eq_decide.2 (below_iff (by omega) hb.1)), rfl⟩

/-- Is a matrix of r rows and k columns in a list of n right? -/
def matB (n : Nat) (off r k ld : Int) : Bool := decide (0 ≤ r ∧ 0 ≤ k ∧ 1 ≤ ld ∧ r ≤ ld ∧ 0 ≤ off ∧ (r = 0 ∨ k = 0 ∨ off + (k - 1) * ld + (r - 1) < n))

theorem none_any (A : Option Addr) (n c : Nat) (off r k ld : Int) (w : World) :
    Calls Try.prog 51 #[.agg #[.slice A n c, .int .i64 off, .int .i64 r, .int .i64 k, .int .i64 ld]] w fun e w' => e = .returned (.bool (r == 0 || k == 0)) ∧ Below w.heap.size w w' := by
  go_enter Try.func51, Try.ntmps51
  have hbel := fun (o : Obj) => (Below.refl w.heap.size w).alloc (Nat.le_refl _) o
  go_wp2
  all_goals
    go_ret
    exact ⟨ret_bool (by simp_all), hbel _⟩

theorem good_any (A : Option Addr) (n c : Nat) (off r k ld : Int) (w : World) (hn : n < 9223372036854775808) (ho : I64 off) (hr : I64 r) (hk : I64 k) (hi : I64 ld) :
    Calls Try.prog 23 #[.agg #[.slice A n c, .int .i64 off, .int .i64 r, .int .i64 k, .int .i64 ld]] w fun e w' => e = .returned (.bool (matB n off r k ld)) ∧ Below w.heap.size w w' := by
  unfold I64 at ho hr hk hi
  go_enter Try.func23, Try.ntmps23
  have hbel := fun (o : Obj) => (Below.refl w.heap.size w).alloc (Nat.le_refl _) o
  by_cases h1 : r < 0 ∨ k < 0 ∨ ld < max 1 r ∨ off < 0
  · have hv : matB n off r k ld = false := decide_eq_false (by omega)
    go_wp2
    all_goals
      go_ret
      first | exact ⟨rfl, hbel _⟩ | exact ⟨ret_bool hv.symm, hbel _⟩
  · have d1 : decide (r < 0) = false := by simp; omega
    have d2 : decide (k < 0) = false := by simp; omega
    have d3 : decide (ld < 1) = false := by simp; omega
    have d3' : decide (ld < r) = false := by simp; omega
    have d4 : decide (off < 0) = false := by simp; omega
    by_cases h2 : r = 0 ∨ k = 0
    · have d5 : (r == 0 || k == 0) = true := by simpa using h2
      have hv : matB n off r k ld = true := decide_eq_true (by omega)
      go_wp2_with fail
      all_goals
        refine (none_any A n c off r k ld _).mono ?_
        rintro e w' ⟨rfl, b1⟩
        go_wp2_with fail
        go_ret
        first | exact ⟨rfl, (hbel _).trans (b1.mono (by simp))⟩ | exact ⟨ret_bool hv.symm, (hbel _).trans (b1.mono (by simp))⟩
    · have d5 : (r == 0 || k == 0) = false := by simpa using h2
      have e1 : wrap64 (r - 1) = r - 1 := by unfold wrap64; omega
      have e2 : wrap64 ((n : Int) - (r - 1)) = (n : Int) - (r - 1) := by unfold wrap64; omega
      have hv : reachB ((n : Int) - (r - 1)) off k ld = matB n off r k ld := decide_eq_decide.2 (by omega)
      go_wp2_with fail
      all_goals
        refine (none_any A n c off r k ld _).mono ?_
        rintro e w' ⟨rfl, b1⟩
        obtain ⟨c0, c1, c2, c3, c4⟩ := cells5 ((Blk.new w 24 _).nxt b1)
        go_wp2_with fail
        refine (reaches_any _ off k ld _ (by omega) (by omega) (by omega) (by omega)).mono ?_
        rintro e w' ⟨rfl, rfl⟩
        go_wp2_with fail
        go_ret
        first | exact ⟨rfl, (hbel _).trans (b1.mono (by simp))⟩ | exact ⟨ret_bool hv.symm, (hbel _).trans (b1.mono (by simp))⟩

theorem rgood_any (A : Option Addr) (n c : Nat) (off r k ld : Int) (w : World) (hn : n < 9223372036854775808) (ho : I64 off) (hr : I64 r) (hk : I64 k) (hi : I64 ld) :
    Calls Try.prog 9 #[.agg #[.slice A n c, .int .i64 off, .int .i64 r, .int .i64 k, .int .i64 ld]] w fun e w' => e = .returned (.bool (matB n off r k ld)) ∧ Below w.heap.size w w' := by
  unfold I64 at ho hr hk hi
  go_enter Try.func9, Try.ntmps9
  have hbel := fun (o : Obj) => (Below.refl w.heap.size w).alloc (Nat.le_refl _) o
  by_cases h1 : r < 0 ∨ k < 0 ∨ ld < 1 ∨ ld < r ∨ off < 0
  · have hv : matB n off r k ld = false := decide_eq_false (by omega)
    go_wp2
    all_goals
      go_ret
      first | exact ⟨rfl, hbel _⟩ | exact ⟨ret_bool hv.symm, hbel _⟩
  · have d1 : decide (r < 0) = false := by simp; omega
    have d2 : decide (k < 0) = false := by simp; omega
    have d3 : decide (ld < 1) = false := by simp; omega
    have d3' : decide (ld < r) = false := by simp; omega
    have d4 : decide (off < 0) = false := by simp; omega
    by_cases h2 : r = 0 ∨ k = 0
    · have hv : matB n off r k ld = true := decide_eq_true (by omega)
      have d5 : (r == 0) = true ∨ (r == 0) = false ∧ (k == 0) = true := by
        by_cases hr0 : r = 0
        · exact .inl (by simp [hr0])
        · exact .inr ⟨by simp [hr0], by simp; omega⟩
      rcases d5 with d5 | ⟨d5, d6⟩
      all_goals go_wp2
      all_goals
        go_ret
        first | exact ⟨rfl, hbel _⟩ | exact ⟨ret_bool hv.symm, hbel _⟩
    · have d5 : (r == 0) = false := by simp; omega
      have d6 : (k == 0) = false := by simp; omega
      have e1 : wrap64 (r - 1) = r - 1 := by unfold wrap64; omega
      have e2 : wrap64 (k - 1) = k - 1 := by unfold wrap64; omega
      have hv : belowB n off (k - 1) ld (r - 1) = matB n off r k ld := decide_eq_decide.2 (by omega)
      go_wp2_with fail
      refine (rwithin_any n off (k - 1) ld (r - 1) _ (by omega) (by omega) (by omega) (by omega) (by omega)).mono ?_
      rintro e w' ⟨rfl, rfl⟩
      go_wp2_with fail
      go_ret
      first | exact ⟨rfl, hbel _⟩ | exact ⟨ret_bool hv.symm, hbel _⟩
end Go.Proofs.Ytelpdbkkefpjhaa
