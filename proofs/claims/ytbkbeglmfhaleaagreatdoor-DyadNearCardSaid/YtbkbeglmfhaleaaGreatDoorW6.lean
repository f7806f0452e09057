/-
Whole numbers: evens, halved. Conditions: as each says.
-/
import Derived.Test.YtbkbeglmfhaleaaGreatDoorW5
set_option linter.unusedVariables false
namespace Go.Proofs.YtbkbeglmfhaleaaGreatDoor
open Go.RowKit
attribute [local go_sem ↓] Go.wp_at_zero Go.wp_at_succ

theorem nz_any (d : Nat) (w : World) : Calls Tryz.prog 113 #[.int .u64 d] w fun e w' => e = .returned (.bool ((d : Int) != 0)) ∧ w = w' := by
  go_enter Tryz.func113, Tryz.ntmps113
  go_wp2_with fail
  go_ret
  exact ⟨rfl, rfl⟩

set_option maxHeartbeats 400000 in
theorem indexNz_any (A : Option Addr) (n c i0 : Nat) (l : List Nat) (w : World) (hn : l.length = n) (hnb : n ≤ 1099511627776) (hr : Row w A (u64s l)) (hi : i0 < n) (hz : ∀ j, j < i0 → l.getD j 0 = 0) (h0 : l.getD i0 0 ≠ 0) :
    Calls Tryz.prog 112 #[.slice A n c, .func (.func 113) #[] #[]] w fun e w' => e = .returned (.int .i64 i0) ∧ w = w' := by
  have HN := Lib.hid hn
  have HR := Lib.hid hr
  have HZ := Lib.hid hz
  have H0 := Lib.hid h0
  clear hn hr hz h0
  go_enter Tryz.func112, Tryz.ntmps112
  go_wp2_with fail
  go_loop [8] (fun i => ∃ k : Nat, k ≤ i0 ∧ i = .int .i64 k) (fun i => n - (intOf i).toNat)
  case atStart => exact ⟨0, Nat.zero_le _, rfl⟩
  case round =>
    obtain ⟨k, hk, rfl⟩ := hrel
    have hlt : k < l.length := by rw [HN.out]; omega
    obtain ⟨b, o, rfl, _, hcell⟩ := HR.out.at_ (u64s_get l k hlt)
    have hget := getD_of hlt
    generalize l[k] = d at *
    have hkn : (k : Int) < (n : Int) := by omega
    by_cases he : k = i0
    · have ht : ((d : Int) != 0) = true := by
        have := H0.out; rw [← he, hget] at this; simp; omega
      have HE := Lib.hid he
      clear he hget
      go_wp2_with (go_at_call 113; refine (nz_any d _).mono ?_; rintro e w' ⟨rfl, rfl⟩)
      go_ret
      exact ⟨ret_i (by rw [HE.out]), rfl⟩
    · have ht : ((d : Int) != 0) = false := by
        have := HZ.out k (by omega); rw [hget] at this; simp; omega
      clear hget
      go_wp2_with (go_at_call 113; refine (nz_any d _).mono ?_; rintro e w' ⟨rfl, rfl⟩)
      go_round
      case rel => exact ⟨k + 1, by omega, by go_num⟩
      case measure => simp [intOf]; omega

theorem ev_low {x m v j : Nat} (hx : x = m * 2 ^ v) (hj : j < v / 64) : x / Q ^ j % Q = 0 := by
  have e : 2 ^ v = 2 ^ (v - 64 * (j + 1)) * Q * Q ^ j := by
    rw [Nat.mul_assoc, Nat.mul_comm Q, ← Nat.pow_succ, Q_pow, ← Nat.pow_mul, ← Nat.pow_add]; congr 1; omega
  rw [hx, e, ← Nat.mul_assoc, Nat.mul_div_cancel _ (Nat.pow_pos (by unfold Q; omega)), ← Nat.mul_assoc, Nat.mul_mod_left]
theorem ev_at {x m v : Nat} (hx : x = m * 2 ^ v) : x / Q ^ (v / 64) % Q = m % 2 ^ (64 - v % 64) * 2 ^ (v % 64) := by
  have e : 2 ^ v = 2 ^ (v % 64) * Q ^ (v / 64) := by
    rw [Q_pow, ← Nat.pow_mul, ← Nat.pow_add]; congr 1; omega
  have e2 : Q = 2 ^ (64 - v % 64) * 2 ^ (v % 64) := by
    rw [← Nat.pow_add, show 64 - v % 64 + v % 64 = 64 by omega]; rfl
  rw [hx, e, ← Nat.mul_assoc, Nat.mul_div_cancel _ (Nat.pow_pos (by unfold Q; omega)), e2, Nat.mul_mod_mul_right]
theorem odd_mod {m k : Nat} (hm : m % 2 = 1) (hk : 1 ≤ k) : m % 2 ^ k % 2 = 1 := by
  have : 2 ∣ 2 ^ k := by
    rw [show k = (k - 1) + 1 by omega, Nat.pow_succ]; exact Nat.dvd_mul_left _ _
  rw [Nat.mod_mod_of_dvd _ this, hm]

theorem evens_any (A : Option Addr) (n c : Nat) (z : Int) (m v : Nat) (w : World) (h : Wh w A n c z) (hn : n ≤ 1099511627776) (hz : z.natAbs = m * 2 ^ v) (hm : m % 2 = 1) (hg : Glob w) :
    Calls Tryz.prog 88 #[.agg #[.bool (ng z), .slice A n c]] w fun e w' => e = .returned (.int .i64 v) ∧ Below w.heap.size w w' := by
  obtain ⟨h1, h2, hr⟩ := h
  have hat := ev_at hz
  have hodd := odd_mod hm (show 1 ≤ 64 - v % 64 by omega)
  have hp := Nat.two_pow_pos (v % 64)
  have hne : z.natAbs / Q ^ (v / 64) % Q ≠ 0 := by rw [hat]; exact Nat.mul_ne_zero (by omega) (by omega)
  have hin : v / 64 < n := by
    rcases Nat.lt_or_ge (v / 64) n with hl | hl
    · exact hl
    · exact absurd (dig_beyond z n _ h1 hl) hne
  have hlt : v / 64 < (dig z).length := by unfold wl at h1; omega
  have hd := dig_get z _ hlt
  rw [hat] at hd
  have hdq := (dig_lt z).get _ hlt
  rw [Q_val] at hdq
  have hidx := fun W (hr : Row W A (u64s (dig z))) => indexNz_any A n c (v / 64) (dig z) W (by unfold wl at h1; omega) hn hr hin (fun j hj => by
    have hjl : j < (dig z).length := by omega
    rw [getD_of hjl, dig_get z j hjl, ev_low hz hj]) (by rw [getD_of hlt, dig_get z _ hlt]; exact hne)
  obtain ⟨b, o, rfl, _, hcell⟩ := hr.at_ (u64s_get (dig z) _ hlt)
  generalize (dig z)[v / 64] = d at *
  have htz := fun W (hg : Glob W) => tz_any d _ _ W hdq hd hodd hg
  have hv1 : v / 64 * 64 + v % 64 = v := by omega
  have hvb : v / 64 ≤ 1099511627776 := by omega
  have hvs : v % 64 < 64 := by omega
  generalize v / 64 = q at *
  generalize v % 64 = s at *
  have HI := Lib.hid (hidx _ (hr.below ((Below.refl _ _).alloc (Nat.le_refl _) (.cells #[.bool (ng z), .slice (some ⟨b, o, none⟩) n c] 35))))
  have HT := Lib.hid (htz _ (hg.below ((Below.refl _ _).alloc (Nat.le_refl _) (.cells #[.bool (ng z), .slice (some ⟨b, o, none⟩) n c] 35))))
  have HV := Lib.hid hv1
  clear hidx htz hr hat hodd hne hd hdq hz hm hg hv1 h1 hlt
  go_enter Tryz.func88, Tryz.ntmps88
  go_wp2_with fail
  refine HI.out.mono ?_
  rintro e w1 ⟨rfl, rfl⟩
  have e3 : (q : Int) < (n : Int) := by omega
  go_wp2_with fail
  refine HT.out.mono ?_
  rintro e w1 ⟨rfl, rfl⟩
  go_wp2_with fail
  go_ret
  exact ⟨ret_i (by rw [← HV.out]; omega), (Below.refl _ _).alloc (Nat.le_refl _) _⟩

/-- What halved has laid after k words. -/
def HalfW (x W k : Nat) (M : List Nat) : Prop := Digs Q M ∧ M.length = W ∧ ofd Q (M.take k) = x % Q ^ k
theorem HalfW.start (x W : Nat) : HalfW x W 0 (List.replicate W 0) := ⟨Digs.replicate (by unfold Q; omega) _, by simp, by simp [ofd, Nat.mod_one]⟩
theorem HalfW.step {x W k : Nat} {M : List Nat} (h : HalfW x W k M) (hk : k < W) : HalfW x W (k + 1) (M.set k (x / Q ^ k % Q)) := by
  obtain ⟨h1, h2, h3⟩ := h
  refine ⟨h1.set k (Nat.mod_lt _ (by unfold Q; omega)), by simpa using h2, ?_⟩
  rw [ofd_take_set Q M k _ (by omega), h3, Nat.mod_pow_succ]
theorem HalfW.done {x W : Nat} {M : List Nat} (h : HalfW x W W M) (hx : x < Q ^ W) : ofd Q M = x := by
  obtain ⟨h1, h2, h3⟩ := h
  rw [ofd_take_all _ _ _ (by omega), Nat.mod_eq_of_lt hx] at h3
  exact h3
theorem win_half {x y v i : Nat} (h : x = y * 2 ^ v) : win x (v + i * 64) = y / Q ^ i % Q := by
  unfold win
  rw [Nat.pow_add, ← Nat.div_div_eq_div_mul, h, Nat.mul_div_cancel _ (Nat.two_pow_pos v), Nat.mul_comm i, Nat.pow_mul]
  rfl
theorem bl_mul {m v : Nat} (h : m ≠ 0) : bl (m * 2 ^ v) = bl m + v := by
  obtain ⟨b1, b2⟩ := bl_bounds h
  have hb : 0 < bl m := by unfold bl; rw [if_neg h]; omega
  have := bl_unique (n := m * 2 ^ v) (k := bl m - 1 + v) (by rw [Nat.pow_add]; exact Nat.mul_le_mul_right _ b1) (by
    rw [show bl m - 1 + v + 1 = bl m + v by omega, Nat.pow_add]; exact Nat.mul_lt_mul_of_pos_right b2 (Nat.two_pow_pos v))
  rw [this]; omega
theorem bl_room {m W : Nat} (hW : (bl m + 63) / 64 = W) : m < Q ^ W := by
  by_cases h : m = 0
  · rw [h]; exact Nat.pow_pos (by unfold Q; omega)
  · obtain ⟨b1, b2⟩ := bl_bounds h
    rw [Q_pow, ← Nat.pow_mul]
    exact Nat.lt_of_lt_of_le b2 (Nat.pow_le_pow_right (by omega) (by omega))
end Go.Proofs.YtbkbeglmfhaleaaGreatDoor
