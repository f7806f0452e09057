/-
Clone: a new matrix with a matrix' numbers. Conditions: the matrix is right, its list has at most 2^20 numbers, its sizes are at most 64.
-/
import Derived.Test.YtbjopdnfjjcpoaaZNm
import Derived.Test.YtbjopdnfjjcpoaaInv
import Derived.Laws.CopyRow
import Derived.Laws.IdiomCopy
set_option linter.unusedVariables false
set_option linter.unusedSimpArgs false
set_option linter.unnecessarySimpa false
namespace Go.Proofs.Ytbjopdnfjjcpoaa
open Go.RowKit
attribute [local go_sem ↓] Go.wp_at_zero Go.wp_at_succ

theorem info1_f64 : (Try.prog.info? 39).map (·.size) = some 1 := by kernel_rfl
/-- What copy comes to where all goes over. -/
theorem run_copy_all (W : World) (ty : TypeId) (g N c d : Nat) (B : Option Addr) (cur : Array Value) (M : List Nat) (hg : Blk W g 39 cur) (hcur : cur.size = N) (hM : M.length = N) (hB : Row W B (f64s M)) :
    ∃ W', (Builtin.copy_ #[22, 22] ty #[.slice (some ⟨g, 0, none⟩) N c, .slice B N d]).run Try.prog W = .ok (goInt N) W' ∧ Blk W' g 39 (f64s M).toArray ∧ Only g W W' := by
  by_cases h0 : N = 0
  · subst h0
    obtain rfl : M = [] := List.length_eq_zero_iff.1 hM
    refine ⟨W, run_copy_none W _ _ _ 39 _ _ _ _ _ _ Try.underlying22 info1_f64 rfl, ?_, Only.refl _ _⟩
    have : cur = #[] := Array.eq_empty_of_size_eq_zero hcur
    subst this; exact hg
  · rcases hB with h | ⟨b, o, rfl, hc⟩
    · have : M = [] := by simpa [f64s] using h
      subst this; simp at hM; omega
    · have hlen : (f64s M).length = N := by simp [f64s, hM]
      have h1 := run_copy_row (P := Try.prog) W 22 22 ty 39 g 0 N c ⟨b, o, none⟩ N d cur 39 (f64s M) Try.underlying22 info1_f64 hg (by rw [hlen]; exact (Nat.min_self N).symm) (fun j v h => by
        have := hc j v h
        rw [addr_at]; exact this) (by rw [hlen]; omega) (one_cells M)
      have e : (List.take 0 cur.toList ++ f64s M ++ List.drop (0 + (f64s M).length) cur.toList).toArray = (f64s M).toArray := by
        rw [hlen, List.drop_eq_nil_of_le (by simp; omega)]; simp
      rw [e, hlen] at h1
      refine ⟨_, h1, setRow_heap W g cur _ _ _ hg, ⟨rfl, rfl, rfl, by simp, fun k hk hne => setRow_other W g k _ (fun e => hne (by rw [e]))⟩⟩
/-- Before and behind the copying. -/
def CopyB (W0 : World) (g : Nat) (X : List Nat) (d4 : Bool) (W : World) : Prop := (d4 = false → Below W0.heap.size W0 W) ∧ (d4 = true → Blk W g 39 (f64s X).toArray ∧ Only g W0 W)
theorem max_int (R C : Nat) : (if (R : Int) < (C : Int) then (C : Int) else (R : Int)) = ((max R C : Nat) : Int) := by split <;> omega

theorem run_max_nat (P : Program) (ts : Array TypeId) (t : TypeId) (x y : Nat) (w : World) : (Builtin.max_ ts t #[.int .i64 (x : Int), .int .i64 (y : Int)]).run P w = .ok (.int .i64 ((max x y : Nat) : Int)) w := by
  rw [← max_int]
  simp [Builtin.max_, Builtin.max2]
attribute [local go_sem ↓] run_max_nat
end Go.Proofs.Ytbjopdnfjjcpoaa
