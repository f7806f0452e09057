/-
The example; Great; Take. Conditions: as each says.
-/
import Derived.Test.YtelpdbkkefpjhaaWKf
import Derived.Test.YtelpdbkkefpjhaaWKb
import Derived.Maps.AppendAt
set_option linter.unusedVariables false
namespace Go.Proofs.Ytelpdbkkefpjhaa
open Go.RowKit
attribute [local go_sem ↓] Go.wp_at_zero Go.wp_at_succ

/-- Is there more of a matrix than is looked at? -/
def greatB (n : Nat) (r k : Int) : Bool := decide (1000 < n) || decide (20 < r) || decide (20 < k)
theorem great_any (A : Option Addr) (n c : Nat) (off r k ld : Int) (w : World) : Calls Try.prog 7 #[mat A n c off r k ld] w fun e w' => e = .returned (.bool (greatB n r k)) ∧ Below w.heap.size w w' := by
  have hbel := fun (o : Obj) => (Below.refl w.heap.size w).alloc (Nat.le_refl _) o
  have e0 : decide ((1000 : Int) < (n : Int)) = decide (1000 < n) := decide_eq_decide.2 (by omega)
  unfold mat greatB
  by_cases h1 : (1000 : Int) < (n : Int)
  · have h2 : decide (1000 < n) = true := by simp; omega
    rw [h2]
    go_enter Try.func7, Try.ntmps7
    go_wp2_with fail
    go_ret
    exact ⟨by simp, hbel _⟩
  · have h2 : decide (1000 < n) = false := by simp; omega
    rw [h2]
    by_cases h3 : 20 < r
    · go_enter Try.func7, Try.ntmps7
      go_wp2_with fail
      go_ret
      exact ⟨by simp <;> omega, hbel _⟩
    · go_enter Try.func7, Try.ntmps7
      go_wp2_with fail
      go_ret
      exact ⟨by simp <;> omega, hbel _⟩
end Go.Proofs.Ytelpdbkkefpjhaa
/-
Take: rows that change places in an order. Conditions: as each says.
-/
set_option linter.unusedVariables false
namespace Go.Proofs.Ytelpdbkkefpjhaa
open Go.RowKit
attribute [local go_sem ↓] Go.wp_at_zero Go.wp_at_succ

/-- The row that stands at a when the first k changes of the order have been made. -/
def prm (zs : List Int) : Nat → Nat → Nat
  | 0, a => a
  | k + 1, a => prm zs k (sw k (zs.getD k 0).toNat a)
theorem Img.step {l m m' : List Nat} {o R C L i j : Nat} {zs : List Int} {q : Nat} (h : Img l o R C L (fun a b => l.getD (o + prm zs q a + b * L) 0) m) (h' : Img m o R C L (fun a b => m.getD (o + sw i j a + b * L) 0) m') (hi : i < R) (hj : j < R) :
    Img l o R C L (fun a b => l.getD (o + prm zs q (sw i j a) + b * L) 0) m' :=
  (h.trans h').congr fun a ha b hb => h.2.1 _ (sw_lt hi hj ha) b hb

end Go.Proofs.Ytelpdbkkefpjhaa
/-
List, Write: the document's numbers of a vector. Conditions: the vector is right, its list has at most 2^20 numbers.
-/
set_option linter.unusedVariables false
namespace Go.Proofs.Ytelpdbkkefpjhaa
open Go.RowKit
attribute [local go_sem ↓] Go.wp_at_zero Go.wp_at_succ

theorem wrap3 {o a P : Nat} (hP : P < 1048576) (h : o + a = P) : wrap64 (a : Int) = (a : Int) ∧ wrap64 (P : Int) = (P : Int) ∧ IntKind.i64.wrap (a : Int) = (a : Int) ∧ IntKind.i64.wrap (P : Int) = (P : Int) :=
  ⟨wrap_id (by unfold I64; omega), wrap_id (by unfold I64; omega), wrapi (by omega) (by omega), wrapi (by omega) (by omega)⟩
end Go.Proofs.Ytelpdbkkefpjhaa
/-
Two lists that are made longer side by side. Conditions: none.
-/
set_option linter.unusedVariables false
namespace Go.Proofs.Ytelpdbkkefpjhaa
open Go.RowKit

/-- The two values lie in blocks of their own. -/
def Apart (v u : Value) : Prop := v.ownBlock = none ∨ u.ownBlock = none ∨ v.ownBlock ≠ u.ownBlock
theorem Apart.symm {v u : Value} (h : Apart v u) : Apart u v := by
  rcases h with h | h | h
  · exact .inr (.inl h)
  · exact .inl h
  · exact .inr (.inr (fun e => h e.symm))
theorem ii0 : ∃ i, Try.prog.info? 3 = some i ∧ i.zero = some (.int .i64 0) ∧ i.size = 1 ∧ i.bytes = 8 := by
  have h : (Try.prog.info? 3).map (fun i => (i.zero, i.size, i.bytes)) = some (some (.int .i64 0), 1, 8) := by kernel_rfl
  cases hi : Try.prog.info? 3 with
  | none => rw [hi] at h; cases h
  | some i =>
    rw [hi] at h
    simp at h
    exact ⟨i, rfl, h.1, h.2.1, h.2.2⟩
theorem i64s_snoc (l : List Int) (x : Int) : i64s (l ++ [x]) = i64s l ++ [.int .i64 x] := by simp [i64s]
theorem own_rowi {w : World} {B : Nat} {v : Value} {n : Nat} {l : List Int} (h : w.ownsRow B 3 1 v n (i64s l)) (hn : n = l.length) : ∃ A c, v = .slice A n c ∧ Row w A (i64s l) ∧ ∀ b y, A = some ⟨b, y, none⟩ → b < w.heap.size := by
  rcases h.2 with ⟨rfl, h0⟩ | ⟨g, cap, cur, rfl, hB, hg, hc, hm, hs, hx⟩
  · subst h0
    have : l = [] := List.length_eq_zero_iff.1 hn.symm
    subst this
    exact ⟨none, 0, rfl, .inl rfl, fun b y e => by cases e⟩
  · refine ⟨_, cap, rfl, .inr ⟨g, 0, rfl, fun i v hi => ?_⟩, fun b y e => ?_⟩
    · have := World.ownsRow.cells h (g := g) rfl i v hi
      by_cases h0 : i = 0
      · subst h0; simpa [Addr.add] using this
      · simpa [Addr.add, h0] using this
    · injection e with e
      injection e with e1 e2
      subst e1
      exact (Array.getElem?_eq_some_iff.1 hg).1
/-- A list that is counted out. -/
def cnt (f : Nat → Int) (q : Nat) : List Int := (List.range q).map f
theorem cnt_length (f : Nat → Int) (q : Nat) : (cnt f q).length = q := by simp [cnt]
theorem cnt_succ (f : Nat → Int) (q : Nat) : cnt f (q + 1) = cnt f q ++ [f q] := by simp [cnt, List.range_succ]
theorem cnt_getD (f : Nat → Int) {q j : Nat} (h : j < q) : (cnt f q).getD j 0 = f j := by simp [cnt, List.getD, h]
end Go.Proofs.Ytelpdbkkefpjhaa
