/-
Vectors: places, and vectors that meet. Conditions: as each says.
-/
import Derived.Test.YtamndbeffbcppaaSt
set_option linter.unusedVariables false
namespace Go.Proofs.Ytamndbeffbcppaa
open Go.RowKit
attribute [local go_sem ↓] Go.wp_at_zero Go.wp_at_succ

theorem mplace_any (A : Option Addr) (n c : Nat) (off k inc i p : Int) (w : World) (hp : off + i * inc = p) (h1 : I64 (i * inc)) (h2 : I64 p) :
    Calls Try.prog 63 #[vec A n c off k inc, .int .i64 i] w fun e w' => e = .returned (.int .i64 p) ∧ Below w.heap.size w w' := by
  unfold I64 at h1 h2
  have w2 : IntKind.i64.wrap (i * inc) = i * inc := wrapi (by omega) (by omega)
  have w3 : IntKind.i64.wrap p = p := wrapi (by omega) (by omega)
  have u1 : wrap64 (i * inc) = i * inc := by unfold wrap64; omega
  have u2 : wrap64 p = p := by unfold wrap64; omega
  unfold vec
  go_enter Try.func63, Try.ntmps63
  go_wp2_with fail
  go_ret
  exact ⟨rfl, (Below.refl w.heap.size w).alloc (Nat.le_refl _) _⟩

/-- Does a number of the vector stand at place p? -/
def standsB (off k inc p : Int) : Bool := decide (off ≤ p ∧ (p - off) % inc = 0 ∧ (p - off) / inc < k)

theorem stands_any (A : Option Addr) (n c : Nat) (off k inc p : Int) (w : World) (ho : 0 ≤ off ∧ off < 9223372036854775808) (hp : 0 ≤ p ∧ p < 9223372036854775808) (hi : 1 ≤ inc ∧ inc < 9223372036854775808) :
    Calls Try.prog 72 #[vec A n c off k inc, .int .i64 p] w fun e w' => e = .returned (.bool (standsB off k inc p)) ∧ Below w.heap.size w w' := by
  have u0 : wrap64 (p - off) = p - off := by unfold wrap64; omega
  have u1 : IntKind.i64.wrap (p - off) = p - off := wrapi (by omega) (by omega)
  have e0 : (inc == 0) = false := by simp; omega
  have hbel := (Below.refl w.heap.size w).alloc (Nat.le_refl _) (.cells #[.slice A n c, .int .i64 off, .int .i64 k, .int .i64 inc] 45)
  have hbelN := fun m => below_drewN hbel m
  unfold vec
  obtain ⟨q, hq⟩ : ∃ q, p - off = q := ⟨_, rfl⟩
  by_cases h1 : 0 ≤ q
  · have hd := h1
    have q0 : Int.tmod q inc = q % inc := Int.tmod_eq_emod_of_nonneg h1
    have q1 : Int.tdiv q inc = q / inc := Int.tdiv_eq_ediv_of_nonneg h1
    have q2 : 0 ≤ q % inc ∧ q % inc < inc := ⟨Int.emod_nonneg _ (by omega), Int.emod_lt_of_pos _ (by omega)⟩
    have q3 : 0 ≤ q / inc ∧ q / inc ≤ q := ⟨Int.ediv_nonneg h1 (by omega), Int.ediv_le_self _ h1⟩
    obtain ⟨m, hm⟩ : ∃ m, q % inc = m := ⟨_, rfl⟩
    obtain ⟨d, hd⟩ : ∃ d, q / inc = d := ⟨_, rfl⟩
    rw [hm] at q0 q2
    rw [hd] at q1 q3
    have w0 : IntKind.i64.wrap m = m := wrapi (by omega) (by omega)
    have w1 : IntKind.i64.wrap d = d := wrapi (by omega) (by omega)
    have hs : standsB off k inc p = (decide (m = 0) && decide (d < k)) := by
      unfold standsB
      rw [hq, hm, hd, Bool.eq_iff_iff]
      simp
      omega
    rw [hs]
    rw [hq] at u0 u1
    clear hm hd hs
    by_cases h2 : m = 0
    · subst h2
      go_enter Try.func72, Try.ntmps72
      go_wp2_with fail
      go_quiet (fail)
      go_wp2_with fail
      go_ret
      exact ⟨by simp, by first | exact hbel | exact hbel.drew | exact hbelN _⟩
    · have h2' : (m == 0) = false := by simp [h2]
      have h2'' : decide (m = 0) = false := by simp [h2]
      go_enter Try.func72, Try.ntmps72
      go_wp2_with fail
      go_quiet (fail)
      go_wp2_with fail
      go_ret
      exact ⟨by simp [h2], by first | exact hbel | exact hbel.drew | exact hbelN _⟩
  · have hs : standsB off k inc p = false := decide_eq_false (by omega)
    rw [hs]
    rw [hq] at u0 u1
    have hd : decide (0 ≤ q) = false := by simp; omega
    go_enter Try.func72, Try.ntmps72
    go_wp2_with fail
    go_quiet (fail)
    go_wp2_with fail
    go_ret
    exact ⟨rfl, by first | exact hbel | exact hbel.drew | exact hbelN _⟩

theorem mrow_any (A : Option Addr) (n c : Nat) (off k inc : Int) (w : World) :
    Calls Try.prog 71 #[vec A n c off k inc] w fun e w' => e = .returned (mat A n c off 1 k inc) ∧ Below w.heap.size w w' := by
  unfold vec mat
  go_enter Try.func71, Try.ntmps71
  go_wp2_with fail
  exact bodyPost_ret (v := .agg #[.slice A n c, .int .i64 off, .int .i64 1, .int .i64 k, .int .i64 inc]) (by simp [results, Try.results71, go_sem]) rfl ⟨rfl, ((Below.refl w.heap.size w).alloc (Nat.le_refl _) _).alloc (by simp) _⟩
end Go.Proofs.Ytamndbeffbcppaa
