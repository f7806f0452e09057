/-
Whole numbers: width, window. Conditions: as each says.
-/
import Derived.Test.YtbkbeglmfhaleaaGreatDoorW2
import Derived.Test.YtbkbeglmfhaleaaGreatDoorNumB
set_option linter.unusedVariables false
namespace Go.Proofs.YtbkbeglmfhaleaaGreatDoor
open Go.RowKit
attribute [local go_sem ↓] Go.wp_at_zero Go.wp_at_succ

theorem lz_any (x : Int) (w : World) (h0 : 0 ≤ x) (h1 : x ≤ 18446744073709551615) :
    Calls Tryz.prog 71 #[.int .u64 x] w fun e w' => e = .returned (.int .i64 (64 - (Lib.bitLen x.toNat : Int))) ∧ w = w' := by
  have hb : Lib.bitLen x.toNat ≤ 64 := Lib.bitLen_le _ 64 (by omega) (by omega)
  generalize hL : Lib.bitLen x.toNat = L at *
  have HL := Lib.hid hL
  clear hL
  go_enter Tryz.func71, Tryz.ntmps71
  go_wp2_with fail
  refine (len64_any x _ h0 h1).mono ?_
  rintro e w1 ⟨rfl, rfl⟩
  rw [HL.out]
  go_wp2_with fail
  go_ret
  exact ⟨rfl, rfl⟩

/-- How many binary digits a size has. -/
def bl (n : Nat) : Nat := if n = 0 then 0 else n.log2 + 1
theorem bl_bounds {n : Nat} (h : n ≠ 0) : 2 ^ (bl n - 1) ≤ n ∧ n < 2 ^ bl n := by
  unfold bl; rw [if_neg h]
  exact ⟨Nat.log2_self_le h, Nat.lt_log2_self⟩
theorem bl_unique {n k : Nat} (h1 : 2 ^ k ≤ n) (h2 : n < 2 ^ (k + 1)) : bl n = k + 1 := by
  have h0 : n ≠ 0 := by have := Nat.two_pow_pos k; omega
  unfold bl; rw [if_neg h0]
  congr 1
  exact (Nat.log2_eq_iff h0).2 ⟨h1, h2⟩
theorem last_of {z : Int} {n : Nat} (hn : n = wl z) (h0 : 0 < n) : ∃ h : n - 1 < (dig z).length, (dig z)[n - 1] ≠ 0 ∧ (dig z)[n - 1] < 18446744073709551616 ∧ z.natAbs / Q ^ (n - 1) = (dig z)[n - 1] := by
  have hl : n - 1 < (dig z).length := by unfold wl at hn; omega
  refine ⟨hl, ?_, ?_, ?_⟩
  · have := digs_last Q_two z.natAbs
    intro e
    apply this
    show (dig z).getLast? = some 0
    rw [List.getLast?_eq_getElem?, show (dig z).length - 1 = n - 1 by unfold wl at hn; omega, List.getElem?_eq_getElem hl, e]
  · exact (dig_lt z).get _ hl
  · have := ofd_drop Q_two (dig_lt z) (n - 1) (by omega)
    rw [ofd_dig] at this
    rw [← this, List.drop_eq_getElem_cons hl, List.drop_of_length_le (by unfold wl at hn; omega)]
    simp [ofd]
theorem bl_words {x n d : Nat} (hn : 0 < n) (hd : d ≠ 0) (h : x / Q ^ (n - 1) = d) (hd2 : d < 18446744073709551616) : bl x = (n - 1) * 64 + bl d := by
  obtain ⟨b1, b2⟩ := bl_bounds hd
  have hbd : 0 < bl d := by unfold bl; rw [if_neg hd]; omega
  have hp : 0 < Q ^ (n - 1) := Nat.pow_pos (by have := Q_two; omega)
  have e : Q ^ (n - 1) = 2 ^ ((n - 1) * 64) := by rw [Q_pow, ← Nat.pow_mul, Nat.mul_comm]
  rw [e] at h hp
  have := bl_unique (n := x) (k := (n - 1) * 64 + (bl d - 1)) (by
    rw [Nat.pow_add]
    have : 2 ^ ((n - 1) * 64) * 2 ^ (bl d - 1) ≤ 2 ^ ((n - 1) * 64) * d := Nat.mul_le_mul_left _ b1
    have h2 := Nat.div_mul_le_self x (2 ^ ((n - 1) * 64))
    rw [h, Nat.mul_comm] at h2
    omega) (by
    rw [show (n - 1) * 64 + (bl d - 1) + 1 = (n - 1) * 64 + bl d by omega, Nat.pow_add]
    have : 2 ^ ((n - 1) * 64) * (d + 1) ≤ 2 ^ ((n - 1) * 64) * 2 ^ bl d := Nat.mul_le_mul_left _ b2
    have h2 := Nat.lt_mul_div_succ x hp
    rw [h] at h2
    omega)
  rw [this]; omega
theorem bl_zero : bl 0 = 0 := rfl

theorem width_any (A : Option Addr) (n c : Nat) (z : Int) (w : World) (h : Wh w A n c z) (hb : n ≤ 1099511627776) :
    Calls Tryz.prog 39 #[.agg #[.bool (ng z), .slice A n c]] w fun e w' => e = .returned (.int .i64 (bl z.natAbs)) ∧ Below w.heap.size w w' := by
  obtain ⟨hn, hc, hr⟩ := h
  by_cases h0 : n = 0
  · have hz : z = 0 := (wl_zero z).1 (by omega)
    have HV := Lib.hid (show bl z.natAbs = 0 by rw [hz]; rfl)
    have HN := Lib.hid hn
    subst h0
    clear hn hz hr
    go_enter Tryz.func39, Tryz.ntmps39
    go_wp2_with fail
    go_ret
    exact ⟨ret_i (by rw [HV.out]; rfl), (Below.refl _ _).alloc (Nat.le_refl _) _⟩
  · obtain ⟨hl, hd0, hdl, hq⟩ := last_of hn (by omega)
    obtain ⟨b, o, rfl, hbl, hcell⟩ := hr.at_ (u64s_get _ _ hl)
    have hv := bl_words (by omega) hd0 hq hdl
    generalize (dig z)[n - 1] = d at *
    have hbit : Lib.bitLen d = bl d := by rw [bitLen_log d hd0 hdl]; unfold bl; rw [if_neg hd0]
    have hbd : bl d ≤ 64 := by rw [← hbit]; exact Lib.bitLen_le _ 64 (by omega) hdl
    generalize bl d = L at *
    have HV := Lib.hid hv
    have HN := Lib.hid hn
    have HB := Lib.hid hbit
    have ht : ((n : Int) == 0) = false := by simp; omega
    have hpos : 0 < n := by omega
    have hi1 : (0 : Int) ≤ (n : Int) - 1 := by omega
    have hi2 : ((n : Int) - 1).toNat = n - 1 := by omega
    clear hv hn hbit hd0 hq hl h0
    go_enter Tryz.func39, Tryz.ntmps39
    go_wp2_with fail
    refine (lz_any d _ (by omega) (by omega)).mono ?_
    rintro e w1 ⟨rfl, rfl⟩
    rw [Int.toNat_natCast, HB.out]
    go_wp2_with fail
    go_ret
    exact ⟨ret_i (by rw [HV.out]; omega), (Below.refl _ _).alloc (Nat.le_refl _) _⟩
end Go.Proofs.YtbkbeglmfhaleaaGreatDoor
