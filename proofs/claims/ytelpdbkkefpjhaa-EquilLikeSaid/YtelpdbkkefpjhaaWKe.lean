/-
Lists that are copied: Copy, Apart. Conditions: the lists have at most 2^20 numbers.
-/
import Derived.Test.YtelpdbkkefpjhaaZKVwF
import Derived.Laws.AppendOwn
import Derived.KernelRfl
set_option linter.unusedVariables false
namespace Go.Proofs.Ytelpdbkkefpjhaa
open Go.RowKit
attribute [local go_sem ↓] Go.wp_at_zero Go.wp_at_succ

/-- Block g is the call's own, and the list lies at its beginning. -/
def Own (w : World) (g : Nat) (l : List Nat) : Prop := ∃ cs : Array Value, Blk w g 45 cs ∧ cs.toList.take l.length = f64s l
section
variable {w w' : World} {g : Nat} {l : List Nat}
theorem Own.get (h : Own w g l) (i : Nat) (hi : i < l.length) : w.cell? ⟨g, i, none⟩ = some (.float .f64 l[i]) := by
  obtain ⟨cs, hB, ht⟩ := h
  rw [hB.cell i]
  have h1 : (cs.toList.take l.length)[i]? = some (.float .f64 l[i]) := by rw [ht]; exact f64s_get l i hi
  rw [List.getElem?_take_of_lt hi] at h1
  simpa using h1
theorem Own.row (h : Own w g l) : Row w (some ⟨g, 0, none⟩) (f64s l) :=
  .inr ⟨g, 0, rfl, fun i v hv => by
    obtain ⟨hi, rfl⟩ := f64s_get? hv
    rw [Nat.zero_add]; exact h.get i hi⟩
theorem Own.lt (h : Own w g l) : g < w.heap.size := by
  obtain ⟨cs, hB, _⟩ := h; exact hB.lt
theorem Own.frozen (h : Own w g l) (i : Nat) : w.frozen? ⟨g, i, none⟩ = false := by
  obtain ⟨cs, hB, _⟩ := h; exact hB.frozen i
theorem Own.nxt (h : Own w g l) (hb : Below w.heap.size w w') : Own w' g l := by
  obtain ⟨cs, hB, ht⟩ := h; exact ⟨cs, hB.nxt hb, ht⟩
theorem Own.only {k : Nat} (h : Own w g l) (hO : Only k w w') (hne : g ≠ k) : Own w' g l := by
  obtain ⟨cs, hB, ht⟩ := h; exact ⟨cs, hO.blk hne hB, ht⟩
theorem Own.set_ (h : Own w g l) (i v : Nat) (hi : i < l.length) : Own (w.setCell ⟨g, i, none⟩ (.float .f64 v)) g (l.set i v) := by
  obtain ⟨cs, hB, ht⟩ := h
  refine ⟨_, hB.set_ i _, ?_⟩
  rw [List.length_set, Array.toList_setIfInBounds, List.take_set, ht]
  simp [f64s, List.map_set]
theorem Own.drew (h : Own w g l) : Own w.drew g l := by
  obtain ⟨cs, hB, ht⟩ := h; exact ⟨cs, hB.drew, ht⟩
theorem Own.other (h : Own w g l) {p : Addr} (hp : g ≠ p.block) (u : Value) : Own (w.setCell p u) g l := by
  obtain ⟨cs, hB, ht⟩ := h; exact ⟨cs, hB.other hp u, ht⟩
theorem own_of {v : Value} {n : Nat} {B : Nat} (h : w.ownsRow B 45 1 v n (f64s l)) (hv : v ≠ .slice none 0 0) (hn : n = l.length) : ∃ g c, v = .slice (some ⟨g, 0, none⟩) n c ∧ B ≤ g ∧ n ≤ c ∧ c < 9223372036854775808 ∧ Own w g l := by
  obtain ⟨hl, ⟨h1, _⟩ | ⟨g, cap, cur, h1, h2, h3, h4, h5, h6, h7⟩⟩ := h
  · exact absurd h1 hv
  · exact ⟨g, cap, h1, h2, h4, by unfold maxLen at h5; omega, cur, h3, by rw [← hn]; simpa using h7⟩
end

theorem fi0 : ∃ i, Try.prog.info? 45 = some i ∧ i.zero = some (.float .f64 0) ∧ i.size = 1 ∧ i.bytes = 8 := by
  obtain ⟨i, hi, h⟩ := Option.map_eq_some_iff.1 info_f64
  simp only [Prod.mk.injEq] at h
  exact ⟨i, hi, h.1, h.2.1, h.2.2⟩
theorem one_cells (l : List Nat) : ∀ u ∈ f64s l, u.oneCell' = true := by
  intro u hu
  obtain ⟨b, _, rfl⟩ := List.mem_map.1 hu
  rfl
theorem own_empty (w : World) : (w.alloc (.cells #[] 45)).ownsRow w.heap.size 45 1 (.slice (some ⟨w.heap.size, 0, none⟩) 0 0) 0 [] :=
  ⟨rfl, .inr ⟨w.heap.size, 0, #[], rfl, Nat.le_refl _, heap_alloc_new w _, Nat.le_refl _, Nat.zero_le _, rfl, rfl⟩⟩

theorem run_append_nil (B c : Nat) (w : World) : (Builtin.append_ #[22, 22] 22 #[.slice (some ⟨B, 0, none⟩) 0 0, .slice none 0 c]).run Try.prog w = .ok (.slice (some ⟨B, 0, none⟩) 0 0) w := by kernel_rfl
attribute [go_sem] run_append_nil

end Go.Proofs.Ytelpdbkkefpjhaa
/-
Set: a number of a matrix. Conditions: as each says.
-/
set_option linter.unusedVariables false
namespace Go.Proofs.Ytelpdbkkefpjhaa
open Go.RowKit
attribute [local go_sem ↓] Go.wp_at_zero Go.wp_at_succ

theorem Only.of_below {g : Nat} {w w' : World} (h : Below w.heap.size w w') : Only g w w' := ⟨h.os, h.tape, h.output, h.size, fun k hk _ => h.block k hk⟩
theorem place_any (A : Option Addr) (n c : Nat) (off r k ld : Int) (i j p : Int) (w : World) (hp : off + i + j * ld = p) (h1 : I64 (off + i)) (h2 : I64 (j * ld)) (h3 : I64 p) :
    Calls Try.prog 57 #[mat A n c off r k ld, .int .i64 i, .int .i64 j] w fun e w' => e = .returned (.int .i64 p) ∧ Below w.heap.size w w' := by
  unfold I64 at h1 h2 h3
  have w1 : IntKind.i64.wrap (off + i) = off + i := wrapi (by omega) (by omega)
  have w2 : IntKind.i64.wrap (j * ld) = j * ld := wrapi (by omega) (by omega)
  have w3 : IntKind.i64.wrap p = p := wrapi (by omega) (by omega)
  have v1 : wrap64 (off + i) = off + i := by unfold wrap64; omega
  have v3 : wrap64 p = p := by unfold wrap64; omega
  unfold mat
  go_enter Try.func57, Try.ntmps57
  go_wp2_with fail
  go_ret
  exact ⟨rfl, (Below.refl w.heap.size w).alloc (Nat.le_refl _) _⟩

end Go.Proofs.Ytelpdbkkefpjhaa
/-
Lists: numbers that are taken from places and written to places. Conditions: as each says.
-/
set_option linter.unusedVariables false
namespace Go.Proofs.Ytelpdbkkefpjhaa

/-- What lies in the blocks, where block g holds l. -/
def upd (s : Nat → List Nat) (g : Nat) (l : List Nat) : Nat → List Nat := fun h => if h = g then l else s h
theorem upd_self (s : Nat → List Nat) (g : Nat) (l : List Nat) : upd s g l g = l := by simp [upd]
theorem upd_ne {s : Nat → List Nat} {g h : Nat} {l : List Nat} (hne : h ≠ g) : upd s g l h = s h := by simp [upd, hne]
theorem upd_upd (s : Nat → List Nat) (g : Nat) (l m : List Nat) : upd (upd s g l) g m = upd s g m := by
  funext h; unfold upd; split <;> rfl
theorem upd_same (s : Nat → List Nat) (g : Nat) : upd s g (s g) = s := by
  funext h; unfold upd; split
  · rename_i e; rw [e]
  · rfl
theorem getD_of_lt {l : List Nat} {i : Nat} (h : i < l.length) : l.getD i 0 = l[i] := by simp [List.getD, h]
theorem getD_of_le {l : List Nat} {i : Nat} (h : l.length ≤ i) : l.getD i 0 = 0 := by simp [List.getD, List.getElem?_eq_none h]
theorem getD_set_self {l : List Nat} {i : Nat} (h : i < l.length) (v : Nat) : (l.set i v).getD i 0 = v := by simp [List.getD, h]
theorem getD_set_ne (l : List Nat) {i j : Nat} (h : i ≠ j) (v : Nat) : (l.set i v).getD j 0 = l.getD j 0 := by
  rw [List.getD, List.getElem?_set_ne h, List.getD]
/-- The numbers at off, off + inc, .. -/
def lst (l : List Nat) (off inc k : Nat) : List Nat := (List.range k).map fun i => l.getD (off + i * inc) 0
theorem lst_length (l : List Nat) (off inc k : Nat) : (lst l off inc k).length = k := by simp [lst]
theorem lst_getD (l : List Nat) (off inc : Nat) {k i : Nat} (h : i < k) : (lst l off inc k).getD i 0 = l.getD (off + i * inc) 0 := by
  simp [lst, List.getD, h]
end Go.Proofs.Ytelpdbkkefpjhaa
