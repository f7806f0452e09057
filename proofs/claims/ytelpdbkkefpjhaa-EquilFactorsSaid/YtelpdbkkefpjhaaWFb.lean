/-
Set: a number of a matrix. Conditions: as each says.
-/
import Derived.Test.YtelpdbkkefpjhaaZFVwH
import Derived.KernelRfl
set_option linter.unusedVariables false
namespace Go.Proofs.Ytelpdbkkefpjhaa
open Go.RowKit
attribute [local go_sem ↓] Go.wp_at_zero Go.wp_at_succ

theorem Only.of_below {g : Nat} {w w' : World} (h : Below w.heap.size w w') : Only g w w' := ⟨h.os, h.tape, h.output, h.size, fun k hk _ => h.block k hk⟩
theorem place_any (A : Option Addr) (n c : Nat) (off r k ld : Int) (i j p : Int) (w : World) (hp : off + i + j * ld = p) (h1 : I64 (off + i)) (h2 : I64 (j * ld)) (h3 : I64 p) :
    Calls Try.prog 57 #[mat A n c off r k ld, .int .i64 i, .int .i64 j] w fun e w' => e = .returned (.int .i64 p) ∧ Below w.heap.size w w' := by
  unfold I64 at h1 h2 h3
  have w1 : IntKind.i64.wrap (off + i) = off + i := wrapi (by omega) (by omega)
  have w2 : IntKind.i64.wrap (j * ld) = j * ld := wrapi (by omega) (by omega)
  have w3 : IntKind.i64.wrap p = p := wrapi (by omega) (by omega)
  have v1 : wrap64 (off + i) = off + i := by unfold wrap64; omega
  have v3 : wrap64 p = p := by unfold wrap64; omega
  unfold mat
  go_enter Try.func57, Try.ntmps57
  go_wp2_with fail
  go_ret
  exact ⟨rfl, (Below.refl w.heap.size w).alloc (Nat.le_refl _) _⟩

end Go.Proofs.Ytelpdbkkefpjhaa
/-
Lists: numbers that are taken from places and written to places. Conditions: as each says.
-/
set_option linter.unusedVariables false
namespace Go.Proofs.Ytelpdbkkefpjhaa

/-- What lies in the blocks, where block g holds l. -/
def upd (s : Nat → List Nat) (g : Nat) (l : List Nat) : Nat → List Nat := fun h => if h = g then l else s h
theorem upd_self (s : Nat → List Nat) (g : Nat) (l : List Nat) : upd s g l g = l := by simp [upd]
theorem upd_ne {s : Nat → List Nat} {g h : Nat} {l : List Nat} (hne : h ≠ g) : upd s g l h = s h := by simp [upd, hne]
theorem upd_upd (s : Nat → List Nat) (g : Nat) (l m : List Nat) : upd (upd s g l) g m = upd s g m := by
  funext h; unfold upd; split <;> rfl
theorem upd_same (s : Nat → List Nat) (g : Nat) : upd s g (s g) = s := by
  funext h; unfold upd; split
  · rename_i e; rw [e]
  · rfl
theorem getD_of_lt {l : List Nat} {i : Nat} (h : i < l.length) : l.getD i 0 = l[i] := by simp [List.getD, h]
theorem getD_of_le {l : List Nat} {i : Nat} (h : l.length ≤ i) : l.getD i 0 = 0 := by simp [List.getD, List.getElem?_eq_none h]
theorem getD_set_self {l : List Nat} {i : Nat} (h : i < l.length) (v : Nat) : (l.set i v).getD i 0 = v := by simp [List.getD, h]
theorem getD_set_ne (l : List Nat) {i j : Nat} (h : i ≠ j) (v : Nat) : (l.set i v).getD j 0 = l.getD j 0 := by
  rw [List.getD, List.getElem?_set_ne h, List.getD]
/-- The numbers at off, off + inc, .. -/
def lst (l : List Nat) (off inc k : Nat) : List Nat := (List.range k).map fun i => l.getD (off + i * inc) 0
theorem lst_length (l : List Nat) (off inc k : Nat) : (lst l off inc k).length = k := by simp [lst]
theorem lst_getD (l : List Nat) (off inc : Nat) {k i : Nat} (h : i < k) : (lst l off inc k).getD i 0 = l.getD (off + i * inc) 0 := by
  simp [lst, List.getD, h]
end Go.Proofs.Ytelpdbkkefpjhaa
