/-
Whole numbers: window. Conditions: as each says.
-/
import Derived.Test.YtbkbeglmfhaleaaGreatDoorW3
set_option linter.unusedVariables false
namespace Go.Proofs.YtbkbeglmfhaleaaGreatDoor
open Go.RowKit
attribute [local go_sem ↓] ib_or

theorem orU_comm (a b : Nat) (ha : a < 18446744073709551616) (hb : b < 18446744073709551616) : orU (a : Int) (b : Int) = orU (b : Int) (a : Int) := by
  unfold orU; rw [u64_or_nat a b ha hb, u64_or_nat b a hb ha, Nat.or_comm]
/-- The window of 64 binary digits from place k on. -/
def win (x k : Nat) : Nat := x / 2 ^ k % 18446744073709551616
theorem win_lt (x k : Nat) : win x k < 18446744073709551616 := Nat.mod_lt _ (by omega)
theorem pow_split (i s : Nat) : 2 ^ (64 * i + s) = Q ^ i * 2 ^ s := by rw [Q_pow, ← Nat.pow_mul, Nat.pow_add]
theorem win_far {x k n i s : Nat} (hk : k = 64 * i + s) (hx : x < Q ^ n) (hi : n ≤ i) : win x k = 0 := by
  unfold win
  rw [hk, pow_split, ← Nat.div_div_eq_div_mul]
  have : Q ^ n ≤ Q ^ i := Nat.pow_le_pow_right (by have := Q_two; omega) hi
  rw [Nat.div_eq_of_lt (Nat.lt_of_lt_of_le hx this), Nat.zero_div]
theorem win_two {x k i s : Nat} (hk : k = 64 * i + s) (hs : s < 64) {d e : Nat} (hd : x / Q ^ i % Q = d) (he : x / Q ^ (i + 1) % Q = e) :
    win x k = d / 2 ^ s + e * 2 ^ (64 - s) % 18446744073709551616 := by
  unfold win
  rw [hk, pow_split, ← Nat.div_div_eq_div_mul]
  rw [Nat.pow_succ, ← Nat.div_div_eq_div_mul] at he
  generalize x / Q ^ i = y at *
  have hq : Q = 18446744073709551616 := rfl
  have e1 : y = d + Q * (e + Q * (y / Q / Q)) := by
    have h1 := Nat.mod_add_div y Q
    have h2 := Nat.mod_add_div (y / Q) Q
    rw [hd] at h1; rw [he] at h2
    rw [h2, h1]
  generalize y / Q / Q = r at *
  have hdq : d < Q := by rw [← hd]; exact Nat.mod_lt _ (by rw [hq]; omega)
  have hsplit : Q = 2 ^ s * 2 ^ (64 - s) := by rw [← Nat.pow_add, show s + (64 - s) = 64 by omega]; rfl
  have e2 : y / 2 ^ s = d / 2 ^ s + 2 ^ (64 - s) * (e + Q * r) := by
    rw [e1]
    have : Q * (e + Q * r) = 2 ^ s * (2 ^ (64 - s) * (e + Q * r)) := by rw [← Nat.mul_assoc, ← hsplit]
    rw [this, Nat.add_mul_div_left _ _ (Nat.two_pow_pos s)]
  rw [e2]
  have h3 : d / 2 ^ s < 2 ^ (64 - s) := by
    rw [Nat.div_lt_iff_lt_mul (Nat.two_pow_pos s), Nat.mul_comm, ← hsplit]; exact hdq
  have e3 : 2 ^ (64 - s) * (e + Q * r) = e * 2 ^ (64 - s) + 18446744073709551616 * (2 ^ (64 - s) * r) := by rw [hq]; grind
  rw [e3, ← Nat.add_assoc, Nat.add_mul_mod_self_left, Nat.add_mod]
  have h4 : d / 2 ^ s < 18446744073709551616 := by
    have := Nat.div_le_self d (2 ^ s); rw [hq] at hdq; omega
  rw [Nat.mod_eq_of_lt h4]
  -- the upper part is a multiple of 2^(64-s)
  have h5 : e * 2 ^ (64 - s) % 18446744073709551616 = e % 2 ^ s * 2 ^ (64 - s) := by
    rw [← hq, hsplit, Nat.mul_mod_mul_right]
  rw [h5]
  refine Nat.mod_eq_of_lt ?_
  have h6 : e % 2 ^ s < 2 ^ s := Nat.mod_lt _ (Nat.two_pow_pos s)
  have h7 : (e % 2 ^ s + 1) * 2 ^ (64 - s) ≤ 2 ^ s * 2 ^ (64 - s) := Nat.mul_le_mul_right _ h6
  rw [← hsplit, hq, Nat.add_mul] at h7
  omega
theorem win_or {d e s : Nat} (hs : s < 64) (hd : d < 18446744073709551616) : orU ((d / 2 ^ s : Nat) : Int) ((e * 2 ^ (64 - s) % 18446744073709551616 : Nat) : Int) = ((d / 2 ^ s + e * 2 ^ (64 - s) % 18446744073709551616 : Nat) : Int) := by
  have hsplit : 18446744073709551616 = 2 ^ s * 2 ^ (64 - s) := by rw [← Nat.pow_add, show s + (64 - s) = 64 by omega]
  have h4 : d / 2 ^ s < 18446744073709551616 := by have := Nat.div_le_self d (2 ^ s); omega
  have h5 : e * 2 ^ (64 - s) % 18446744073709551616 < 18446744073709551616 := Nat.mod_lt _ (by omega)
  have h6 : e * 2 ^ (64 - s) % 18446744073709551616 % 2 ^ (64 - s) = 0 := by
    rw [hsplit, Nat.mul_mod_mul_right]; simp
  have h7 : d / 2 ^ s < 2 ^ (64 - s) := by
    rw [Nat.div_lt_iff_lt_mul (Nat.two_pow_pos s), Nat.mul_comm, ← hsplit]; exact hd
  rw [orU_comm _ _ h4 h5, orU_nat (64 - s) h5 h4 h7 h6, Nat.add_comm]
theorem dig_get (z : Int) (i : Nat) (h : i < (dig z).length) : (dig z)[i] = z.natAbs / Q ^ i % Q := by
  have := ofd_get Q_two (dig_lt z) i
  rw [ofd_dig, getD_of h] at this
  exact this
theorem dig_beyond (z : Int) (n i : Nat) (hn : n = wl z) (h : n ≤ i) : z.natAbs / Q ^ i % Q = 0 := by
  have := (wl_le z i).1 (by omega)
  rw [Nat.div_eq_of_lt this]; simp

theorem win_cast {d s : Nat} : ((d : Int) / 2 ^ s) = ((d / 2 ^ s : Nat) : Int) := by
  rw [Int.natCast_ediv]; simp
theorem win_cast2 {e s : Nat} : IntKind.u64.wrap ((e : Int) * 2 ^ s) = ((e * 2 ^ s % 18446744073709551616 : Nat) : Int) := by
  rw [IntKind.wrap_u64, Int.natCast_emod]; simp

theorem window_any (A : Option Addr) (n c : Nat) (z : Int) (k : Nat) (w : World) (h : Wh w A n c z) (hb : n ≤ 1099511627776) (hk : k ≤ 140737488355328) :
    Calls Tryz.prog 41 #[.agg #[.bool (ng z), .slice A n c], .int .i64 (k : Int)] w fun e w' => e = .returned (.int .u64 (win z.natAbs k)) ∧ Below w.heap.size w w' := by
  obtain ⟨hn, hc, hr⟩ := h
  obtain ⟨i, s, hks, hs⟩ : ∃ i s, k = 64 * i + s ∧ s < 64 := ⟨k / 64, k % 64, by omega, by omega⟩
  have hq1 : (k : Int) / 64 = (i : Int) := by omega
  have hq2 : (k : Int) % 64 = (s : Int) := by omega
  by_cases h0 : i < n
  · have hl : i < (dig z).length := by unfold wl at hn; omega
    obtain ⟨b, o, rfl, hbl, hcell⟩ := hr.at_ (u64s_get _ _ hl)
    have hd := (dig_get z i hl).symm
    have hdl := (dig_lt z).get i hl
    rw [Q_val] at hdl
    have hd1 : decide (i < n) = true := by simp [h0]
    by_cases h1 : i + 1 < n
    · have hl2 : i + 1 < (dig z).length := by unfold wl at hn; omega
      obtain ⟨b', o', e, _, hcell2⟩ := hr.at_ (u64s_get _ _ hl2)
      injection e with e
      injection e with e1 e2
      subst e1 e2
      have he := (dig_get z (i + 1) hl2).symm
      have hel := (dig_lt z).get (i + 1) hl2
      rw [Q_val] at hel
      generalize (dig z)[i] = d at *
      generalize (dig z)[i + 1] = e at *
      have HV := Lib.hid (win_two hks hs hd he)
      have HO := Lib.hid (win_or (e := e) hs hdl)
      have HN := Lib.hid hn
      have hd2 : decide (i + 1 < n) = true := by simp [h1]
      clear hn hr hks hd he hl hl2
      go_enter Tryz.func41, Tryz.ntmps41
      go_wp2_with fail
      go_ret
      exact ⟨ret_i (by rw [HV.out, ← HO.out, ← win_cast, ← win_cast2]), (Below.refl _ _).alloc (Nat.le_refl _) _⟩
    · generalize hd0 : (dig z)[i] = d at *
      have HV := Lib.hid (win_two hks hs hd (dig_beyond z n (i + 1) hn (by omega)))
      have HN := Lib.hid hn
      have hd2 : decide (i + 1 < n) = false := by simp [h1]
      have h1' : ¬ ((i : Int) + 1 < (n : Int)) := by omega
      clear hn hr hks hd hd0 hl h1
      go_enter Tryz.func41, Tryz.ntmps41
      go_wp2_with fail
      go_ret
      exact ⟨ret_i (by rw [HV.out, Nat.zero_mul, Nat.zero_mod, Nat.add_zero, ← win_cast]), (Below.refl _ _).alloc (Nat.le_refl _) _⟩
  · have hx := (wl_le z n).1 (by omega)
    have HV := Lib.hid (win_far hks hx (Nat.le_of_not_lt h0))
    have HN := Lib.hid hn
    have hd1 : decide (i < n) = false := by simp; omega
    have hd2 : ¬ ((i : Int) + 1 < (n : Int)) := by omega
    clear hn hr hks h0 hx
    go_enter Tryz.func41, Tryz.ntmps41
    go_wp2_with fail
    go_ret
    exact ⟨ret_i (by rw [HV.out]; rfl), (Below.refl _ _).alloc (Nat.le_refl _) _⟩
end Go.Proofs.YtbkbeglmfhaleaaGreatDoor
