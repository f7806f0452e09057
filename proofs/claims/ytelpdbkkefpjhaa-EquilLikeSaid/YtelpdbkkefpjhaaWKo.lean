/-
Whole numbers: difference. Conditions: as each says.
-/
import Derived.Test.YtelpdbkkefpjhaaZKDiffM
import Derived.Test.YtelpdbkkefpjhaaWKn
import Derived.Test.YtelpdbkkefpjhaaZKMem
import Derived.WalkLawsBesides
import Derived.WalkSpells
import Derived.LoopTactic
import Derived.Outline
import Derived.Deep.QuietTactic
import Derived.BigQuiet
import Derived.RegionTactic
import Derived.Test.YtelpdbkkefpjhaaWKb
import Derived.Deep.RegionHeld3
import Derived.Deep.DrawnRows
import Derived.Test.YtelpdbkkefpjhaaZKNumB
import Derived.Deep.RegionWith
import Derived.Shelf.Spec.BitsCarry
import Derived.Deep.OwnRows
import Derived.Deep.DeepCutAuto
import Derived.IntWalk
import Derived.Shelf.Spec.TrailingZeros
import Derived.Lib.LaidTab
import Derived.Lib.ItoaNum
set_option linter.unusedVariables false
namespace Go.Proofs.Ytelpdbkkefpjhaa
open Go.RowKit
attribute [local go_sem ↓] Go.wp_at_zero Go.wp_at_succ

theorem Only.alloc {g : Nat} {w w' : World} (h : Only g w w') (o : Obj) : Only g w (w'.alloc o) :=
  ⟨h.os, h.tape, h.output, Nat.le_trans h.size (by simp), fun i hi hne => (Below.heap_alloc w' o i (Nat.lt_of_lt_of_le hi h.size)).trans (h.block i hi hne)⟩
theorem Only.new_ {g : Nat} {w w' : World} (h : Only g w w') (i : Nat) (u : Value) (k : Nat) (hk : w.heap.size ≤ k) : Only g w (w'.setCell ⟨k, i, none⟩ u) :=
  ⟨h.os, h.tape, h.output, by simpa [World.setCell] using h.size, fun j hj hne => (Below.heap_setCell w' _ u j (by simp; omega)).trans (h.block j hj hne)⟩

end Go.Proofs.Ytelpdbkkefpjhaa
/-
Whole numbers: sum. Conditions: as each says.
-/
set_option linter.unusedVariables false
namespace Go.Proofs.Ytelpdbkkefpjhaa
open Go.RowKit
attribute [local go_sem ↓] Go.wp_at_zero Go.wp_at_succ

/-- The slice's elements are the whole numbers. -/
def Wholes (w : World) (b o : Nat) (zs : List Int) : Prop :=
  ∀ (i : Nat) (h : i < zs.length), ∃ A n c, w.cell? ⟨b, o + i * 2, none⟩ = some (.bool (ng zs[i])) ∧ w.cell? ⟨b, o + i * 2 + 1, none⟩ = some (.slice A n c) ∧ Wh w A n c zs[i]
theorem Wholes.below {w w' : World} {b o : Nat} {zs : List Int} (h : Wholes w b o zs) (hb : Below w.heap.size w w') : Wholes w' b o zs := fun i hi => by
  obtain ⟨A, n, c, h1, h2, h3⟩ := h i hi
  exact ⟨A, n, c, cell_below h1 hb, cell_below h2 hb, h3.below hb⟩
/-- The slice's numbers. -/
def Pows (w : World) (b o : Nat) (ps : List Nat) : Prop := ∀ (i : Nat) (h : i < ps.length), w.cell? ⟨b, o + i, none⟩ = some (.int .i64 (ps[i] : Int))
theorem Pows.below {w w' : World} {b o : Nat} {ps : List Nat} (h : Pows w b o ps) (hb : Below w.heap.size w w') : Pows w' b o ps := fun i hi => cell_below (h i hi) hb
/-- The sizes of the numbers that are below 0 (s), or aren't, each at its place. -/
def acc (s : Bool) (zs : List Int) (ps : List Nat) : Nat → Nat
  | 0 => 0
  | k + 1 => acc s zs ps k + if ng (zs.getD k 0) = s then 2 ^ ps.getD k 0 * (zs.getD k 0).natAbs else 0
/-- The two lists that are summed up, when k numbers are in. -/
def Acc2 (zs : List Int) (ps : List Nat) (W k : Nat) (M1 M2 : List Nat) : Prop :=
  Digs Q M1 ∧ Digs Q M2 ∧ M1.length = W ∧ M2.length = W ∧ ofd Q M1 = acc false zs ps k ∧ ofd Q M2 = acc true zs ps k
theorem Acc2.start (zs : List Int) (ps : List Nat) (W : Nat) : Acc2 zs ps W 0 (List.replicate W 0) (List.replicate W 0) :=
  ⟨Digs.replicate (by unfold Q; omega) _, Digs.replicate (by unfold Q; omega) _, by simp, by simp, ofd_replicate _ _, ofd_replicate _ _⟩
end Go.Proofs.Ytelpdbkkefpjhaa
/-
Whole numbers: evens, halved. Conditions: as each says.
-/
set_option linter.unusedVariables false
namespace Go.Proofs.Ytelpdbkkefpjhaa
open Go.RowKit
attribute [local go_sem ↓] Go.wp_at_zero Go.wp_at_succ

/-- What halved has laid after k words. -/
def HalfW (x W k : Nat) (M : List Nat) : Prop := Digs Q M ∧ M.length = W ∧ ofd Q (M.take k) = x % Q ^ k
theorem HalfW.start (x W : Nat) : HalfW x W 0 (List.replicate W 0) := ⟨Digs.replicate (by unfold Q; omega) _, by simp, by simp [ofd, Nat.mod_one]⟩
theorem HalfW.step {x W k : Nat} {M : List Nat} (h : HalfW x W k M) (hk : k < W) : HalfW x W (k + 1) (M.set k (x / Q ^ k % Q)) := by
  obtain ⟨h1, h2, h3⟩ := h
  refine ⟨h1.set k (Nat.mod_lt _ (by unfold Q; omega)), by simpa using h2, ?_⟩
  rw [ofd_take_set Q M k _ (by omega), h3, Nat.mod_pow_succ]
theorem HalfW.done {x W : Nat} {M : List Nat} (h : HalfW x W W M) (hx : x < Q ^ W) : ofd Q M = x := by
  obtain ⟨h1, h2, h3⟩ := h
  rw [ofd_take_all _ _ _ (by omega), Nat.mod_eq_of_lt hx] at h3
  exact h3
end Go.Proofs.Ytelpdbkkefpjhaa
/-
canonical: m times 2^e. Conditions: as each says.
-/
set_option linter.unusedVariables false
namespace Go.Proofs.Ytelpdbkkefpjhaa
open Go.RowKit
attribute [local go_sem ↓] Go.wp_at_zero Go.wp_at_succ

theorem Blk.next {w w' : World} {g : Nat} {t : TypeId} {cs : Array Value} (h : Blk w g t cs) (hb : Below w.heap.size w w') : Blk w' g t cs := h.below hb h.lt

end Go.Proofs.Ytelpdbkkefpjhaa
