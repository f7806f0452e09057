/-
Whole numbers: width, window. Conditions: as each says.
-/
import Derived.Test.YtodoibioedelgaaGbe
import Derived.Test.YtodoibioedelgaaGn
set_option linter.unusedVariables false
namespace Go.Proofs.Ytodoibioedelgaa
open Go.RowKit
attribute [local go_sem ↓] Go.wp_at_zero Go.wp_at_succ

/-- How many binary digits a size has. -/
def bl (n : Nat) : Nat := if n = 0 then 0 else n.log2 + 1
theorem bl_bounds {n : Nat} (h : n ≠ 0) : 2 ^ (bl n - 1) ≤ n ∧ n < 2 ^ bl n := by
  unfold bl; rw [if_neg h]
  exact ⟨Nat.log2_self_le h, Nat.lt_log2_self⟩
theorem bl_unique {n k : Nat} (h1 : 2 ^ k ≤ n) (h2 : n < 2 ^ (k + 1)) : bl n = k + 1 := by
  have h0 : n ≠ 0 := by have := Nat.two_pow_pos k; omega
  unfold bl; rw [if_neg h0]
  congr 1
  exact (Nat.log2_eq_iff h0).2 ⟨h1, h2⟩
theorem last_of {z : Int} {n : Nat} (hn : n = wl z) (h0 : 0 < n) : ∃ h : n - 1 < (dig z).length, (dig z)[n - 1] ≠ 0 ∧ (dig z)[n - 1] < 18446744073709551616 ∧ z.natAbs / Q ^ (n - 1) = (dig z)[n - 1] := by
  have hl : n - 1 < (dig z).length := by unfold wl at hn; omega
  refine ⟨hl, ?_, ?_, ?_⟩
  · have := digs_last Q_two z.natAbs
    intro e
    apply this
    show (dig z).getLast? = some 0
    rw [List.getLast?_eq_getElem?, show (dig z).length - 1 = n - 1 by unfold wl at hn; omega, List.getElem?_eq_getElem hl, e]
  · exact (dig_lt z).get _ hl
  · have := ofd_drop Q_two (dig_lt z) (n - 1) (by omega)
    rw [ofd_dig] at this
    rw [← this, List.drop_eq_getElem_cons hl, List.drop_of_length_le (by unfold wl at hn; omega)]
    simp [ofd]
theorem bl_words {x n d : Nat} (hn : 0 < n) (hd : d ≠ 0) (h : x / Q ^ (n - 1) = d) (hd2 : d < 18446744073709551616) : bl x = (n - 1) * 64 + bl d := by
  obtain ⟨b1, b2⟩ := bl_bounds hd
  have hbd : 0 < bl d := by unfold bl; rw [if_neg hd]; omega
  have hp : 0 < Q ^ (n - 1) := Nat.pow_pos (by have := Q_two; omega)
  have e : Q ^ (n - 1) = 2 ^ ((n - 1) * 64) := by rw [Q_pow, ← Nat.pow_mul, Nat.mul_comm]
  rw [e] at h hp
  have := bl_unique (n := x) (k := (n - 1) * 64 + (bl d - 1)) (by
    rw [Nat.pow_add]
    have : 2 ^ ((n - 1) * 64) * 2 ^ (bl d - 1) ≤ 2 ^ ((n - 1) * 64) * d := Nat.mul_le_mul_left _ b1
    have h2 := Nat.div_mul_le_self x (2 ^ ((n - 1) * 64))
    rw [h, Nat.mul_comm] at h2
    omega) (by
    rw [show (n - 1) * 64 + (bl d - 1) + 1 = (n - 1) * 64 + bl d by omega, Nat.pow_add]
    have : 2 ^ ((n - 1) * 64) * (d + 1) ≤ 2 ^ ((n - 1) * 64) * 2 ^ bl d := Nat.mul_le_mul_left _ b2
    have h2 := Nat.lt_mul_div_succ x hp
    rw [h] at h2
    omega)
  rw [this]; omega
theorem bl_zero : bl 0 = 0 := rfl

end Go.Proofs.Ytodoibioedelgaa
/-
Whole numbers: window. Conditions: as each says.
-/
set_option linter.unusedVariables false
namespace Go.Proofs.Ytodoibioedelgaa
open Go.RowKit
attribute [local go_sem ↓] ib_or

theorem orU_comm (a b : Nat) (ha : a < 18446744073709551616) (hb : b < 18446744073709551616) : orU (a : Int) (b : Int) = orU (b : Int) (a : Int) := by
  unfold orU; rw [u64_or_nat a b ha hb, u64_or_nat b a hb ha, Nat.or_comm]
/-- The window of 64 binary digits from place k on. -/
def win (x k : Nat) : Nat := x / 2 ^ k % 18446744073709551616
theorem win_lt (x k : Nat) : win x k < 18446744073709551616 := Nat.mod_lt _ (by omega)
theorem pow_split (i s : Nat) : 2 ^ (64 * i + s) = Q ^ i * 2 ^ s := by rw [Q_pow, ← Nat.pow_mul, Nat.pow_add]
theorem win_far {x k n i s : Nat} (hk : k = 64 * i + s) (hx : x < Q ^ n) (hi : n ≤ i) : win x k = 0 := by
  unfold win
  rw [hk, pow_split, ← Nat.div_div_eq_div_mul]
  have : Q ^ n ≤ Q ^ i := Nat.pow_le_pow_right (by have := Q_two; omega) hi
  rw [Nat.div_eq_of_lt (Nat.lt_of_lt_of_le hx this), Nat.zero_div]
theorem win_two {x k i s : Nat} (hk : k = 64 * i + s) (hs : s < 64) {d e : Nat} (hd : x / Q ^ i % Q = d) (he : x / Q ^ (i + 1) % Q = e) :
    win x k = d / 2 ^ s + e * 2 ^ (64 - s) % 18446744073709551616 := by
  unfold win
  rw [hk, pow_split, ← Nat.div_div_eq_div_mul]
  rw [Nat.pow_succ, ← Nat.div_div_eq_div_mul] at he
  generalize x / Q ^ i = y at *
  have hq : Q = 18446744073709551616 := rfl
  have e1 : y = d + Q * (e + Q * (y / Q / Q)) := by
    have h1 := Nat.mod_add_div y Q
    have h2 := Nat.mod_add_div (y / Q) Q
    rw [hd] at h1; rw [he] at h2
    rw [h2, h1]
  generalize y / Q / Q = r at *
  have hdq : d < Q := by rw [← hd]; exact Nat.mod_lt _ (by rw [hq]; omega)
  have hsplit : Q = 2 ^ s * 2 ^ (64 - s) := by rw [← Nat.pow_add, show s + (64 - s) = 64 by omega]; rfl
  have e2 : y / 2 ^ s = d / 2 ^ s + 2 ^ (64 - s) * (e + Q * r) := by
    rw [e1]
    have : Q * (e + Q * r) = 2 ^ s * (2 ^ (64 - s) * (e + Q * r)) := by rw [← Nat.mul_assoc, ← hsplit]
    rw [this, Nat.add_mul_div_left _ _ (Nat.two_pow_pos s)]
  rw [e2]
  have h3 : d / 2 ^ s < 2 ^ (64 - s) := by
    rw [Nat.div_lt_iff_lt_mul (Nat.two_pow_pos s), Nat.mul_comm, ← hsplit]; exact hdq
  have e3 : 2 ^ (64 - s) * (e + Q * r) = e * 2 ^ (64 - s) + 18446744073709551616 * (2 ^ (64 - s) * r) := by rw [hq]; grind
  rw [e3, ← Nat.add_assoc, Nat.add_mul_mod_self_left, Nat.add_mod]
  have h4 : d / 2 ^ s < 18446744073709551616 := by
    have := Nat.div_le_self d (2 ^ s); rw [hq] at hdq; omega
  rw [Nat.mod_eq_of_lt h4]
  -- the upper part is a multiple of 2^(64-s)
  have h5 : e * 2 ^ (64 - s) % 18446744073709551616 = e % 2 ^ s * 2 ^ (64 - s) := by
    rw [← hq, hsplit, Nat.mul_mod_mul_right]
  rw [h5]
  refine Nat.mod_eq_of_lt ?_
  have h6 : e % 2 ^ s < 2 ^ s := Nat.mod_lt _ (Nat.two_pow_pos s)
  have h7 : (e % 2 ^ s + 1) * 2 ^ (64 - s) ≤ 2 ^ s * 2 ^ (64 - s) := Nat.mul_le_mul_right _ h6
  rw [← hsplit, hq, Nat.add_mul] at h7
  omega
theorem win_or {d e s : Nat} (hs : s < 64) (hd : d < 18446744073709551616) : orU ((d / 2 ^ s : Nat) : Int) ((e * 2 ^ (64 - s) % 18446744073709551616 : Nat) : Int) = ((d / 2 ^ s + e * 2 ^ (64 - s) % 18446744073709551616 : Nat) : Int) := by
  have hsplit : 18446744073709551616 = 2 ^ s * 2 ^ (64 - s) := by rw [← Nat.pow_add, show s + (64 - s) = 64 by omega]
  have h4 : d / 2 ^ s < 18446744073709551616 := by have := Nat.div_le_self d (2 ^ s); omega
  have h5 : e * 2 ^ (64 - s) % 18446744073709551616 < 18446744073709551616 := Nat.mod_lt _ (by omega)
  have h6 : e * 2 ^ (64 - s) % 18446744073709551616 % 2 ^ (64 - s) = 0 := by
    rw [hsplit, Nat.mul_mod_mul_right]; simp
  have h7 : d / 2 ^ s < 2 ^ (64 - s) := by
    rw [Nat.div_lt_iff_lt_mul (Nat.two_pow_pos s), Nat.mul_comm, ← hsplit]; exact hd
  rw [orU_comm _ _ h4 h5, orU_nat (64 - s) h5 h4 h7 h6, Nat.add_comm]
theorem dig_get (z : Int) (i : Nat) (h : i < (dig z).length) : (dig z)[i] = z.natAbs / Q ^ i % Q := by
  have := ofd_get Q_two (dig_lt z) i
  rw [ofd_dig, getD_of h] at this
  exact this
theorem dig_beyond (z : Int) (n i : Nat) (hn : n = wl z) (h : n ≤ i) : z.natAbs / Q ^ i % Q = 0 := by
  have := (wl_le z i).1 (by omega)
  rw [Nat.div_eq_of_lt this]; simp

theorem win_cast {d s : Nat} : ((d : Int) / 2 ^ s) = ((d / 2 ^ s : Nat) : Int) := by
  rw [Int.natCast_ediv]; simp
theorem win_cast2 {e s : Nat} : IntKind.u64.wrap ((e : Int) * 2 ^ s) = ((e * 2 ^ s % 18446744073709551616 : Nat) : Int) := by
  rw [IntKind.wrap_u64, Int.natCast_emod]; simp

end Go.Proofs.Ytodoibioedelgaa
