/-
The document's Add. Conditions: the numbers have at most 2^29 digits, within 2^30 places.
-/
import Derived.Test.YtajcjpbfmpljkaaDoorZRdJ
import Derived.Maps.AppendAt
set_option linter.unusedVariables false
set_option linter.unusedSimpArgs false
set_option linter.unnecessarySimpa false
namespace Go.Proofs.YtajcjpbfmpljkaaDoor
open Go.RowKit
attribute [local go_sem ↓] Go.wp_at_zero Go.wp_at_succ

theorem ints_snoc (l : List Nat) (x : Nat) : ints (l ++ [x]) = ints l ++ [.int .i64 (x : Int)] := by simp [ints]
theorem ends_bd {n n' : Nat} {E E' fr tz : Int} (hf : endsF n E n' E' = (fr, tz)) (hn : n ≤ 536870912) (hn' : n' ≤ 536870912) (hE : E.natAbs ≤ 1073741824) (hE' : E'.natAbs ≤ 1073741824) : fr.natAbs ≤ 1073741824 ∧ tz.natAbs ≤ 1610612736 := by
  unfold endsF at hf
  by_cases h0 : n = 0
  · rw [if_pos h0] at hf
    injection hf with e1 e2; omega
  · rw [if_neg h0] at hf
    by_cases h1 : n' = 0
    · rw [if_pos h1] at hf
      injection hf with e1 e2; omega
    · rw [if_neg h1] at hf
      injection hf with e1 e2; omega
theorem carry_facts {cr x y : Nat} (hc : cr ≤ 1) (hx : x < 65536) (hy : y < 65536) : ∃ U V V1 V2 : Nat, (cr : Int) + (x : Int) = (U : Int) ∧ (U : Int) + (y : Int) = (V : Int) ∧ IntKind.i64.wrap (U : Int) = (U : Int) ∧ IntKind.i64.wrap (V : Int) = (V : Int) ∧
    (V : Int) % 65536 = (V1 : Int) ∧ (V : Int) / 65536 = (V2 : Int) ∧ (V : Int).tmod 65536 = (V1 : Int) ∧ (V : Int).tdiv 65536 = (V2 : Int) ∧ wrap64 (V2 : Int) = (V2 : Int) ∧ V2 ≤ 1 ∧ V1 < 65536 ∧ (cr + x + y) % 65536 = V1 ∧ (cr + x + y) / 65536 = V2 :=
  ⟨cr + x, cr + x + y, (cr + x + y) % 65536, (cr + x + y) / 65536, by omega, by omega, iwrap_in (by omega), iwrap_in (by omega), by omega, by omega, by rw [Int.tmod_eq_emod_of_nonneg (by omega)]; omega, by rw [Int.tdiv_eq_ediv_of_nonneg (by omega)]; omega, wrap64_in (by omega), by omega, by omega, rfl, rfl⟩
theorem add_val (p : Bool) {a b : Nat} {fr : Int} {L : List Nat} {N cr : Nat} (hl : L.length = N) (h : ofd 65536 L + 65536 ^ N * cr = a + b) : rdy p (L ++ [cr]) fr = dy (sgd p (a + b)) (16 * fr) := by
  rw [rdy_sgd, ofd_snoc, hl, h]

end Go.Proofs.YtajcjpbfmpljkaaDoor
/-
The document's Add where the signs differ. Conditions: the numbers have at most 2^29 digits, within 2^30 places.
-/
set_option linter.unusedVariables false
set_option linter.unusedSimpArgs false
set_option linter.unnecessarySimpa false
namespace Go.Proofs.YtajcjpbfmpljkaaDoor
open Go.RowKit
attribute [local go_sem ↓] Go.wp_at_zero Go.wp_at_succ

theorem borrow_facts0 {x y b : Nat} {V : Int} (h : (x : Int) - (y : Int) - (b : Int) = V) (hbw : y + b ≤ x) (hx : x < 65536) : ∃ z : Nat, x - y - b = z ∧ V = (z : Int) ∧ z < 65536 ∧ decide (V < 0) = false :=
  ⟨x - y - b, rfl, by omega, by omega, decide_eq_false (by omega)⟩
theorem borrow_facts1 {x y b : Nat} {V : Int} (h : (x : Int) - (y : Int) - (b : Int) = V) (hbw : ¬ y + b ≤ x) (hx : x < 65536) (hy : y < 65536) (hb : b ≤ 1) : ∃ z : Nat, x + 65536 - y - b = z ∧ V + 65536 = (z : Int) ∧ wrap64 (z : Int) = (z : Int) ∧ z < 65536 ∧ decide (V < 0) = true ∧ x < y + b ∧ y + b ≤ x + 65536 :=
  ⟨x + 65536 - y - b, rfl, by omega, wrap_small (by omega), by omega, decide_eq_true (by omega), by omega, by omega⟩

end Go.Proofs.YtajcjpbfmpljkaaDoor
