/-
Two lists that are made longer side by side. Conditions: none.
-/
import Derived.Test.YtelpdbkkefpjhaaWFc
import Derived.Test.YtelpdbkkefpjhaaZFOpI
import Derived.Maps.AppendAt
set_option linter.unusedVariables false
namespace Go.Proofs.Ytelpdbkkefpjhaa
open Go.RowKit

/-- The two values lie in blocks of their own. -/
def Apart (v u : Value) : Prop := v.ownBlock = none ∨ u.ownBlock = none ∨ v.ownBlock ≠ u.ownBlock
theorem Apart.symm {v u : Value} (h : Apart v u) : Apart u v := by
  rcases h with h | h | h
  · exact .inr (.inl h)
  · exact .inl h
  · exact .inr (.inr (fun e => h e.symm))
theorem ii0 : ∃ i, Try.prog.info? 3 = some i ∧ i.zero = some (.int .i64 0) ∧ i.size = 1 ∧ i.bytes = 8 := by
  have h : (Try.prog.info? 3).map (fun i => (i.zero, i.size, i.bytes)) = some (some (.int .i64 0), 1, 8) := by kernel_rfl
  cases hi : Try.prog.info? 3 with
  | none => rw [hi] at h; cases h
  | some i =>
    rw [hi] at h
    simp at h
    exact ⟨i, rfl, h.1, h.2.1, h.2.2⟩
theorem i64s_snoc (l : List Int) (x : Int) : i64s (l ++ [x]) = i64s l ++ [.int .i64 x] := by simp [i64s]
theorem own_rowi {w : World} {B : Nat} {v : Value} {n : Nat} {l : List Int} (h : w.ownsRow B 3 1 v n (i64s l)) (hn : n = l.length) : ∃ A c, v = .slice A n c ∧ Row w A (i64s l) ∧ ∀ b y, A = some ⟨b, y, none⟩ → b < w.heap.size := by
  rcases h.2 with ⟨rfl, h0⟩ | ⟨g, cap, cur, rfl, hB, hg, hc, hm, hs, hx⟩
  · subst h0
    have : l = [] := List.length_eq_zero_iff.1 hn.symm
    subst this
    exact ⟨none, 0, rfl, .inl rfl, fun b y e => by cases e⟩
  · refine ⟨_, cap, rfl, .inr ⟨g, 0, rfl, fun i v hi => ?_⟩, fun b y e => ?_⟩
    · have := World.ownsRow.cells h (g := g) rfl i v hi
      by_cases h0 : i = 0
      · subst h0; simpa [Addr.add] using this
      · simpa [Addr.add, h0] using this
    · injection e with e
      injection e with e1 e2
      subst e1
      exact (Array.getElem?_eq_some_iff.1 hg).1
/-- A list that is counted out. -/
def cnt (f : Nat → Int) (q : Nat) : List Int := (List.range q).map f
theorem cnt_length (f : Nat → Int) (q : Nat) : (cnt f q).length = q := by simp [cnt]
theorem cnt_succ (f : Nat → Int) (q : Nat) : cnt f (q + 1) = cnt f q ++ [f q] := by simp [cnt, List.range_succ]
end Go.Proofs.Ytelpdbkkefpjhaa
