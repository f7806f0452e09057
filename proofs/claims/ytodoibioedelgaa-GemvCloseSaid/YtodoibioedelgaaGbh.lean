/-
Whole numbers: plus, evens. Conditions: as each says; the tables of the library are as its text lays them.
-/
import Derived.Test.YtodoibioedelgaaZSum
import Derived.Shelf.Spec.TrailingZeros
import Derived.Lib.LaidTab
import Derived.Lib.ItoaNum
set_option linter.unusedVariables false
namespace Go.Proofs.Ytodoibioedelgaa
open Go.RowKit
attribute [local go_sem ↓] Go.wp_at_zero Go.wp_at_succ

theorem cells4 {w : World} {g : Nat} {t : TypeId} {v0 v1 v2 v3 : Value} (h : Blk w g t #[v0, v1, v2, v3]) :
    w.cell? ⟨g, 0, none⟩ = some v0 ∧ w.cell? ⟨g, 1, none⟩ = some v1 ∧ w.cell? ⟨g, 2, none⟩ = some v2 ∧ w.cell? ⟨g, 3, none⟩ = some v3 ∧
      w.frozen? ⟨g, 0, none⟩ = false ∧ w.frozen? ⟨g, 1, none⟩ = false ∧ w.frozen? ⟨g, 2, none⟩ = false ∧ w.frozen? ⟨g, 3, none⟩ = false :=
  ⟨h.cell 0, h.cell 1, h.cell 2, h.cell 3, h.frozen 0, h.frozen 1, h.frozen 2, h.frozen 3⟩
theorem cells2 {w : World} {g : Nat} {t : TypeId} {v0 v1 : Value} (h : Blk w g t #[v0, v1]) :
    w.cell? ⟨g, 0, none⟩ = some v0 ∧ w.cell? ⟨g, 1, none⟩ = some v1 ∧ w.frozen? ⟨g, 0, none⟩ = false ∧ w.frozen? ⟨g, 1, none⟩ = false :=
  ⟨h.cell 0, h.cell 1, h.frozen 0, h.frozen 1⟩
theorem odd_unique {m n a b : Nat} (h : m * 2 ^ a = n * 2 ^ b) (hm : m % 2 = 1) (hn : n % 2 = 1) : a = b ∧ m = n := by
  have key : ∀ {m n a b : Nat}, m * 2 ^ a = n * 2 ^ b → m % 2 = 1 → n % 2 = 1 → a ≤ b → a = b ∧ m = n := by
    intro m n a b h hm hn hab
    have e : 2 ^ b = 2 ^ a * 2 ^ (b - a) := by rw [← Nat.pow_add]; congr 1; omega
    rw [e, ← Nat.mul_assoc, Nat.mul_right_comm] at h
    have h2 := Nat.eq_of_mul_eq_mul_right (Nat.two_pow_pos a) h
    rcases Nat.eq_zero_or_pos (b - a) with h0 | h0
    · rw [h0] at h2; exact ⟨by omega, by simpa using h2⟩
    · rw [show b - a = (b - a - 1) + 1 by omega, Nat.pow_succ, ← Nat.mul_assoc] at h2
      omega
  rcases Nat.le_total a b with hab | hab
  · exact key h hm hn hab
  · obtain ⟨e1, e2⟩ := key h.symm hn hm hab
    exact ⟨e1.symm, e2.symm⟩
theorem ctz_of {x m s : Nat} (hx : x < 18446744073709551616) (h : x = m * 2 ^ s) (hm : m % 2 = 1) : Lib.ctz 64 x = s := by
  have h0 : x ≠ 0 := by
    have := Nat.two_pow_pos s
    rw [h]; exact Nat.mul_ne_zero (by omega) (by omega)
  unfold Lib.ctz
  rw [if_neg h0]
  obtain ⟨k, e, _⟩ := Lib.ctzFrom_spec 64 x (by omega) hx
  have e2 : (2 * k + 1) * 2 ^ Lib.ctzFrom 64 x = m * 2 ^ s := by rw [← h, Nat.mul_comm]; exact e.symm
  exact (odd_unique e2 (by omega) hm).1

end Go.Proofs.Ytodoibioedelgaa
/-
Whole numbers: evens, halved. Conditions: as each says.
-/
set_option linter.unusedVariables false
namespace Go.Proofs.Ytodoibioedelgaa
open Go.RowKit
attribute [local go_sem ↓] Go.wp_at_zero Go.wp_at_succ

theorem ev_low {x m v j : Nat} (hx : x = m * 2 ^ v) (hj : j < v / 64) : x / Q ^ j % Q = 0 := by
  have e : 2 ^ v = 2 ^ (v - 64 * (j + 1)) * Q * Q ^ j := by
    rw [Nat.mul_assoc, Nat.mul_comm Q, ← Nat.pow_succ, Q_pow, ← Nat.pow_mul, ← Nat.pow_add]; congr 1; omega
  rw [hx, e, ← Nat.mul_assoc, Nat.mul_div_cancel _ (Nat.pow_pos (by unfold Q; omega)), ← Nat.mul_assoc, Nat.mul_mod_left]
theorem ev_at {x m v : Nat} (hx : x = m * 2 ^ v) : x / Q ^ (v / 64) % Q = m % 2 ^ (64 - v % 64) * 2 ^ (v % 64) := by
  have e : 2 ^ v = 2 ^ (v % 64) * Q ^ (v / 64) := by
    rw [Q_pow, ← Nat.pow_mul, ← Nat.pow_add]; congr 1; omega
  have e2 : Q = 2 ^ (64 - v % 64) * 2 ^ (v % 64) := by
    rw [← Nat.pow_add, show 64 - v % 64 + v % 64 = 64 by omega]; rfl
  rw [hx, e, ← Nat.mul_assoc, Nat.mul_div_cancel _ (Nat.pow_pos (by unfold Q; omega)), e2, Nat.mul_mod_mul_right]
theorem odd_mod {m k : Nat} (hm : m % 2 = 1) (hk : 1 ≤ k) : m % 2 ^ k % 2 = 1 := by
  have : 2 ∣ 2 ^ k := by
    rw [show k = (k - 1) + 1 by omega, Nat.pow_succ]; exact Nat.dvd_mul_left _ _
  rw [Nat.mod_mod_of_dvd _ this, hm]

/-- What halved has laid after k words. -/
def HalfW (x W k : Nat) (M : List Nat) : Prop := Digs Q M ∧ M.length = W ∧ ofd Q (M.take k) = x % Q ^ k
theorem HalfW.start (x W : Nat) : HalfW x W 0 (List.replicate W 0) := ⟨Digs.replicate (by unfold Q; omega) _, by simp, by simp [ofd, Nat.mod_one]⟩
theorem HalfW.step {x W k : Nat} {M : List Nat} (h : HalfW x W k M) (hk : k < W) : HalfW x W (k + 1) (M.set k (x / Q ^ k % Q)) := by
  obtain ⟨h1, h2, h3⟩ := h
  refine ⟨h1.set k (Nat.mod_lt _ (by unfold Q; omega)), by simpa using h2, ?_⟩
  rw [ofd_take_set Q M k _ (by omega), h3, Nat.mod_pow_succ]
theorem HalfW.done {x W : Nat} {M : List Nat} (h : HalfW x W W M) (hx : x < Q ^ W) : ofd Q M = x := by
  obtain ⟨h1, h2, h3⟩ := h
  rw [ofd_take_all _ _ _ (by omega), Nat.mod_eq_of_lt hx] at h3
  exact h3
theorem win_half {x y v i : Nat} (h : x = y * 2 ^ v) : win x (v + i * 64) = y / Q ^ i % Q := by
  unfold win
  rw [Nat.pow_add, ← Nat.div_div_eq_div_mul, h, Nat.mul_div_cancel _ (Nat.two_pow_pos v), Nat.mul_comm i, Nat.pow_mul]
  rfl
theorem bl_mul {m v : Nat} (h : m ≠ 0) : bl (m * 2 ^ v) = bl m + v := by
  obtain ⟨b1, b2⟩ := bl_bounds h
  have hb : 0 < bl m := by unfold bl; rw [if_neg h]; omega
  have := bl_unique (n := m * 2 ^ v) (k := bl m - 1 + v) (by rw [Nat.pow_add]; exact Nat.mul_le_mul_right _ b1) (by
    rw [show bl m - 1 + v + 1 = bl m + v by omega, Nat.pow_add]; exact Nat.mul_lt_mul_of_pos_right b2 (Nat.two_pow_pos v))
  rw [this]; omega
theorem bl_room {m W : Nat} (hW : (bl m + 63) / 64 = W) : m < Q ^ W := by
  by_cases h : m = 0
  · rw [h]; exact Nat.pow_pos (by unfold Q; omega)
  · obtain ⟨b1, b2⟩ := bl_bounds h
    rw [Q_pow, ← Nat.pow_mul]
    exact Nat.lt_of_lt_of_le b2 (Nat.pow_le_pow_right (by omega) (by omega))
end Go.Proofs.Ytodoibioedelgaa
/-
Whole numbers: halved. Conditions: as each says.
-/
set_option linter.unusedVariables false
namespace Go.Proofs.Ytodoibioedelgaa
open Go.RowKit
attribute [local go_sem ↓] Go.wp_at_zero Go.wp_at_succ

end Go.Proofs.Ytodoibioedelgaa
/-
canonical: m times 2^e. Conditions: as each says.
-/
set_option linter.unusedVariables false
namespace Go.Proofs.Ytodoibioedelgaa
open Go.RowKit
attribute [local go_sem ↓] Go.wp_at_zero Go.wp_at_succ

theorem held4c {w W w' : World} {b0 o0 b1 o1 b2 o2 b3 o3 : Nat} {v0 v1 v2 v3 : Value} (h : W.cell? ⟨b0, o0, none⟩ = some v0 ∧ W.cell? ⟨b1, o1, none⟩ = some v1 ∧ W.cell? ⟨b2, o2, none⟩ = some v2 ∧ W.cell? ⟨b3, o3, none⟩ = some v3 ∧ Below w.heap.size w W) (hb : Below W.heap.size W w') :
    w'.cell? ⟨b0, o0, none⟩ = some v0 ∧ w'.cell? ⟨b1, o1, none⟩ = some v1 ∧ w'.cell? ⟨b2, o2, none⟩ = some v2 ∧ w'.cell? ⟨b3, o3, none⟩ = some v3 ∧ Below w.heap.size w w' :=
  ⟨cell_below h.1 hb, cell_below h.2.1 hb, cell_below h.2.2.1 hb, cell_below h.2.2.2.1 hb, h.2.2.2.2.trans (hb.mono h.2.2.2.2.size)⟩
theorem held4s {w W : World} {b0 o0 b1 o1 b2 o2 b3 o3 : Nat} {v0 v1 v2 v3 : Value} (h : W.cell? ⟨b0, o0, none⟩ = some v0 ∧ W.cell? ⟨b1, o1, none⟩ = some v1 ∧ W.cell? ⟨b2, o2, none⟩ = some v2 ∧ W.cell? ⟨b3, o3, none⟩ = some v3 ∧ Below w.heap.size w W)
    (g : Nat) (h0 : b0 ≠ g) (h1 : b1 ≠ g) (h2 : b2 ≠ g) (h3 : b3 ≠ g) (hg : w.heap.size ≤ g) (x0 x1 x2 x3 : Value) :
    ((((W.setCell ⟨g, 0, none⟩ x0).setCell ⟨g, 1, none⟩ x1).setCell ⟨g, 2, none⟩ x2).setCell ⟨g, 3, none⟩ x3).cell? ⟨b0, o0, none⟩ = some v0 ∧
    ((((W.setCell ⟨g, 0, none⟩ x0).setCell ⟨g, 1, none⟩ x1).setCell ⟨g, 2, none⟩ x2).setCell ⟨g, 3, none⟩ x3).cell? ⟨b1, o1, none⟩ = some v1 ∧
    ((((W.setCell ⟨g, 0, none⟩ x0).setCell ⟨g, 1, none⟩ x1).setCell ⟨g, 2, none⟩ x2).setCell ⟨g, 3, none⟩ x3).cell? ⟨b2, o2, none⟩ = some v2 ∧
    ((((W.setCell ⟨g, 0, none⟩ x0).setCell ⟨g, 1, none⟩ x1).setCell ⟨g, 2, none⟩ x2).setCell ⟨g, 3, none⟩ x3).cell? ⟨b3, o3, none⟩ = some v3 ∧
    Below w.heap.size w ((((W.setCell ⟨g, 0, none⟩ x0).setCell ⟨g, 1, none⟩ x1).setCell ⟨g, 2, none⟩ x2).setCell ⟨g, 3, none⟩ x3) := by
  refine ⟨?_, ?_, ?_, ?_, ((((h.2.2.2.2.setCell hg _).setCell hg _).setCell hg _).setCell hg _)⟩
  · rw [cell_set h0, cell_set h0, cell_set h0, cell_set h0]; exact h.1
  · rw [cell_set h1, cell_set h1, cell_set h1, cell_set h1]; exact h.2.1
  · rw [cell_set h2, cell_set h2, cell_set h2, cell_set h2]; exact h.2.2.1
  · rw [cell_set h3, cell_set h3, cell_set h3, cell_set h3]; exact h.2.2.2.1
theorem Blk.next {w w' : World} {g : Nat} {t : TypeId} {cs : Array Value} (h : Blk w g t cs) (hb : Below w.heap.size w w') : Blk w' g t cs := h.below hb h.lt

theorem odd_part (z : Int) (h : z ≠ 0) : ∃ (y : Int) (v : Nat), z = y * 2 ^ v ∧ y % 2 = 1 ∧ z.natAbs = y.natAbs * 2 ^ v ∧ y.natAbs % 2 = 1 ∧ y ≠ 0 := by
  have key : ∀ n : Nat, n ≠ 0 → ∃ k v, n = k * 2 ^ v ∧ k % 2 = 1 := by
    intro n
    induction n using Nat.strongRecOn with
    | ind n ih =>
      intro h0
      by_cases ho : n % 2 = 1
      · exact ⟨n, 0, by simp, ho⟩
      · obtain ⟨k, v, e, hk⟩ := ih (n / 2) (by omega) (by omega)
        exact ⟨k, v + 1, by rw [Nat.pow_succ, ← Nat.mul_assoc, ← e]; omega, hk⟩
  obtain ⟨k, v, e, hk⟩ := key z.natAbs (by omega)
  have hc : ((2 ^ v : Nat) : Int) = 2 ^ v := by simp
  rcases Int.lt_or_le z 0 with hz | hz
  · refine ⟨-(k : Int), v, ?_, by omega, by rw [Int.natAbs_neg, Int.natAbs_natCast]; exact e, by omega, by omega⟩
    rw [Int.neg_mul, ← hc, ← Int.natCast_mul, ← e]; omega
  · refine ⟨(k : Int), v, ?_, by omega, by rw [Int.natAbs_natCast]; exact e, by omega, by omega⟩
    rw [← hc, ← Int.natCast_mul, ← e]; omega
theorem dy_parts {z y e : Int} {v : Nat} (hz : z = y * 2 ^ v) (hy : y % 2 = 1) : mant (dy z e) = y ∧ expo (dy z e) = e + v := by
  rw [hz, dy_pow]
  exact ⟨mant_dy _ _ hy, expo_dy _ _ hy⟩
theorem RetD_def (d : Dyadic) (w : World) (a a' : Bool) (A A' : Option Addr) (n c n' c' : Nat) (m e : Int) (w' : World) (hm : mant d = m) (he : expo d = e) (ha : a = ng m) (ha' : a' = ng e) (h : Wh w' A n c m) (h' : Wh w' A' n' c' e) (hb : Below w.heap.size w w') :
    RetD d w (.returned (.agg #[.bool a, .slice A n c, .bool a', .slice A' n' c'])) w' := by
  subst ha ha' hm he; exact ⟨A, n, c, A', n', c', rfl, ⟨h, h'⟩, hb⟩

end Go.Proofs.Ytodoibioedelgaa
