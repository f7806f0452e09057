/-
What the proof rests on: laws of floats, lists, memory and the walks of the functions. Conditions: as each says.
-/
import Derived.Test.YtjjneiidggcfdaaSumsCloseZc
import Derived.Below
import Derived.ChangeSame
import Derived.Laws.Cover2
import Derived.Test.YtjjneiidggcfdaaRows
import Derived.KernelRfl
import Derived.WalkKit
import Derived.Laws.Rows
import Derived.Deep.Draws
import Derived.Laws.OwnMore
import Derived.Lib.Hide
import Derived.Laws.FloatBits
import GoSem.Core.Float
import Derived.WalkLawsBesides
import Derived.Laws.BitsAllLaws
import Derived.WalkSpells
import Derived.LoopTactic
import Derived.Outline
import Derived.Laws.Externs
import Derived.Deep.QuietTactic
import Derived.BigQuiet
import Derived.RegionTactic
import Derived.Deep.Slices
import Derived.Deep.Fields
import Derived.Lib.BitFns
import Derived.Deep.RegionHeld3
import Derived.Deep.DrawnRows
import Derived.Deep.RegionWith
import Derived.Shelf.Spec.BitsCarry
import Derived.Deep.OwnRows
import Derived.Deep.DeepCutAuto
import Derived.IntWalk
import Derived.Shelf.Spec.TrailingZeros
import Derived.Lib.LaidTab
import Derived.Lib.ItoaNum
import Derived.Deep.CutBlock
import Derived.Laws.AppendOwn
import Derived.Orders
import Derived.RowKit3
import Derived.Maps.AppendAt
import Derived.Laws.FloatArith
import Derived.LaidEqlPtr
import Derived.BigRegion
import Ieee.Arith
set_option linter.unusedVariables false
namespace Go.Proofs.Ytjjneiidggcfdaa.Fl
open Ieee

theorem cut_rne (neg : Bool) (n drop : Nat) : Toward.even.cut neg n drop = rne n drop := by
  unfold Toward.cut
  simp only [Nat.shiftLeft_eq, Nat.one_mul]
  by_cases h : drop ≤ n.log2 + 2
  · rw [Nat.min_eq_left h]
    unfold rne
    by_cases h1 : 2 ^ drop < 2 * (n % 2 ^ drop)
    · simp [h1]
    · by_cases h2 : 2 ^ drop = 2 * (n % 2 ^ drop)
      · by_cases h3 : n / 2 ^ drop % 2 = 1
        · simp [← h2, h3]
        · simp [← h2, h3]
      · simp [h1, h2]
  · have hm : min drop (n.log2 + 2) = n.log2 + 2 := by omega
    rw [hm]
    have hlt : n < 2 ^ (n.log2 + 1) := by
      by_cases h0 : n = 0
      · subst h0; exact Nat.two_pow_pos _
      · exact Nat.lt_log2_self
    have h4 : 2 ^ (n.log2 + 2) = 2 * 2 ^ (n.log2 + 1) := by rw [Nat.pow_succ 2 (n.log2 + 1)]; omega
    have h5 : 2 ^ (n.log2 + 2) ≤ 2 ^ drop := Nat.pow_le_pow_right (by omega) (by omega)
    rw [rne_small n drop (by omega)]
    have h6 : n < 2 ^ (n.log2 + 2) := by omega
    rw [Nat.div_eq_of_lt h6, Nat.mod_eq_of_lt h6]
    have h7 : ¬ 2 ^ (n.log2 + 2) < 2 * n := by omega

    simp [h7]
theorem dbl_sign : double.signWeight = 9223372036854775808 := by decide
theorem dbl_binade : double.binade = 4503599627370496 := by decide
theorem dbl_inf : double.infRung = INF := by decide
theorem dbl_word (neg : Bool) (r : Nat) : double.word neg r = wd neg r := by
  unfold Format.word wd
  rw [dbl_sign]
/-- The rung that a number is rounded to, below the lowest place. -/
theorem nearest_low (neg : Bool) (m d : Nat) : double.nearest neg m (-1074 - (d : Int)) = wd neg (cap (rnd m d)) := by
  unfold Format.nearest
  by_cases h0 : m = 0
  · subst h0; rw [rnd_zero, if_pos rfl, dbl_word]; rfl
  rw [if_neg h0]
  have hl : double.leastPlace = -1074 := by decide
  have hf : (double.fractionBits : Int) = 52 := by decide
  simp only [hl, hf]
  have h1 : max (-1074 - (d : Int) + (m.log2 : Int) - 52) (-1074) = -1074 + ((m.log2 - (d + 52) : Nat) : Int) := by omega
  rw [h1]
  have h2 : (-1074 - (d : Int) - (-1074 + ((m.log2 - (d + 52) : Nat) : Int))).toNat = 0 := by omega
  have h3 : (-1074 + ((m.log2 - (d + 52) : Nat) : Int) - (-1074 - (d : Int))).toNat = d + (m.log2 - (d + 52)) := by omega
  have h4 : (-1074 + ((m.log2 - (d + 52) : Nat) : Int) - -1074).toNat = m.log2 - (d + 52) := by omega
  rw [h2, h3, h4, Nat.shiftLeft_zero, cut_rne, dbl_word, dbl_binade, dbl_inf]
  unfold cap rnd
  exact congrArg _ rfl
theorem nearest_high (neg : Bool) (m k : Nat) : double.nearest neg m (-1074 + (k : Int)) = wd neg (cap (rnd (m * 2 ^ k) 0)) := by
  unfold Format.nearest
  by_cases h0 : m = 0
  · subst h0; rw [Nat.zero_mul, rnd_zero, if_pos rfl, dbl_word]; rfl
  rw [if_neg h0]
  have hl : double.leastPlace = -1074 := by decide
  have hf : (double.fractionBits : Int) = 52 := by decide
  simp only [hl, hf]
  have h1 : max (-1074 + (k : Int) + (m.log2 : Int) - 52) (-1074) = -1074 + ((m.log2 + k - 52 : Nat) : Int) := by omega
  rw [h1]
  have hx : rnd (m * 2 ^ k) 0 = (m.log2 + k - 52) * 4503599627370496 + rne (m * 2 ^ k) (m.log2 + k - 52) := by
    unfold rnd
    rw [log2_mul m k h0, Nat.zero_add, Nat.zero_add]
  have h4 : (-1074 + ((m.log2 + k - 52 : Nat) : Int) - -1074).toNat = m.log2 + k - 52 := by omega
  rw [h4, hx, cut_rne]
  have key : rne (m <<< (-1074 + (k : Int) - (-1074 + ((m.log2 + k - 52 : Nat) : Int))).toNat) (-1074 + ((m.log2 + k - 52 : Nat) : Int) - (-1074 + (k : Int))).toNat = rne (m * 2 ^ k) (m.log2 + k - 52) := by
    generalize m.log2 + k - 52 = t
    rw [Nat.shiftLeft_eq]
    by_cases ht : t ≤ k
    · have e1 : (-1074 + (k : Int) - (-1074 + (t : Int))).toNat = k - t := by omega
      have e2 : (-1074 + (t : Int) - (-1074 + (k : Int))).toNat = 0 := by omega
      rw [e1, e2, rne_d0]
      obtain ⟨j, rfl⟩ : ∃ j, k = j + t := ⟨k - t, by omega⟩
      rw [show j + t - t = j by omega, Nat.pow_add, ← Nat.mul_assoc, rne_mul]
    · have e1 : (-1074 + (k : Int) - (-1074 + (t : Int))).toNat = 0 := by omega
      have e2 : (-1074 + (t : Int) - (-1074 + (k : Int))).toNat = t - k := by omega
      rw [e1, e2, Nat.pow_zero, Nat.mul_one]
      have := rne_shift m (t - k) k
      rw [show t - k + k = t by omega] at this
      exact this.symm
  rw [key, dbl_word, dbl_binade, dbl_inf]
  unfold cap
  exact congrArg _ rfl
theorem nearest_scl (neg : Bool) (m : Nat) (p : Int) : double.nearest neg m p = wd neg (scl m (p + 1074)) := by
  unfold scl
  by_cases h : 0 ≤ p + 1074
  · rw [if_pos h]
    have := nearest_high neg m (p + 1074).toNat
    rw [show (-1074 + ((p + 1074).toNat : Int)) = p by omega] at this
    exact this
  · rw [if_neg h]
    have := nearest_low neg m (-(p + 1074)).toNat
    rw [show (-1074 - ((-(p + 1074)).toNat : Int)) = p by omega] at this
    exact this

/-! ### How far it is off. -/
theorem rne_err (n d : Nat) : 2 * (rne n d * 2 ^ d) ≤ 2 * n + 2 ^ d ∧ 2 * n ≤ 2 * (rne n d * 2 ^ d) + 2 ^ d := by
  have e := Nat.div_add_mod n (2 ^ d)
  have hp : 0 < 2 ^ d := Nat.two_pow_pos d
  have hr : n % 2 ^ d < 2 ^ d := Nat.mod_lt _ hp
  unfold rne
  rw [Nat.mul_comm (2 ^ d) (n / 2 ^ d)] at e
  split
  · rename_i h
    rw [Nat.add_mul, Nat.one_mul]
    generalize n / 2 ^ d * 2 ^ d = q at *
    generalize n % 2 ^ d = r at *
    generalize 2 ^ d = p at *
    omega
  · rename_i h
    rw [Nat.add_zero]
    generalize n / 2 ^ d * 2 ^ d = q at *
    generalize n % 2 ^ d = r at *
    generalize 2 ^ d = p at *
    omega
/-- How great the nearest rung is. -/
theorem mag_rnd (N d : Nat) : mag (rnd N d) = rne N (d + (N.log2 - (d + 52))) * 2 ^ (N.log2 - (d + 52)) := by
  by_cases h0 : N = 0
  · subst h0; rw [rnd_zero, rne_zero, mag_zero]; simp
  unfold rnd
  obtain ⟨t, ht⟩ : ∃ t, N.log2 - (d + 52) = t := ⟨_, rfl⟩
  rw [ht]
  have hp : 0 < 2 ^ (d + t) := Nat.two_pow_pos _
  have hhi : N / 2 ^ (d + t) < 9007199254740992 := by
    rw [Nat.div_lt_iff_lt_mul hp, show (9007199254740992 : Nat) = 2 ^ 53 by rfl, ← Nat.pow_add]
    exact Nat.lt_of_lt_of_le Nat.lt_log2_self (Nat.pow_le_pow_right (by omega) (by omega))
  have hr := rne_le N (d + t)
  by_cases ht0 : t = 0
  · subst ht0
    rw [Nat.zero_mul, Nat.zero_add, Nat.pow_zero, Nat.mul_one]
    by_cases he : rne N (d + 0) = 9007199254740992
    · rw [he]
      have := mag_place (m := 4503599627370496) (q := 1) (by omega) (by omega)
      rw [show 9007199254740992 = 1 * 4503599627370496 + 4503599627370496 by omega, this]
    · exact mag_small (by omega)
  · have hlo : 4503599627370496 ≤ N / 2 ^ (d + t) := by
      rw [Nat.le_div_iff_mul_le hp, show (4503599627370496 : Nat) = 2 ^ 52 by rfl, ← Nat.pow_add]
      exact Nat.le_trans (Nat.pow_le_pow_right (by omega) (by omega)) (Nat.log2_self_le h0)
    by_cases he : rne N (d + t) = 9007199254740992
    · rw [he]
      have := mag_place (m := 4503599627370496) (q := t + 1) (by omega) (by omega)
      rw [show t * 4503599627370496 + 9007199254740992 = (t + 1) * 4503599627370496 + 4503599627370496 by omega, this, Nat.pow_succ]
      omega
    · exact mag_place (by omega) (by omega)
/-- The nearest rung is no farther off than 2^-53 of the number, or half a unit. -/
theorem rnd_err (N d : Nat) : 9007199254740992 * (mag (rnd N d) * 2 ^ d) ≤ 9007199254740992 * N + max N (4503599627370496 * 2 ^ d) ∧ 9007199254740992 * N ≤ 9007199254740992 * (mag (rnd N d) * 2 ^ d) + max N (4503599627370496 * 2 ^ d) := by
  rw [mag_rnd]
  obtain ⟨t, ht⟩ : ∃ t, N.log2 - (d + 52) = t := ⟨_, rfl⟩
  rw [ht]
  have h1 := rne_err N (d + t)
  have e1 : rne N (d + t) * 2 ^ t * 2 ^ d = rne N (d + t) * 2 ^ (d + t) := by rw [Nat.mul_assoc, ← Nat.pow_add, Nat.add_comm t d]
  rw [e1]
  have h2 : 4503599627370496 * 2 ^ (d + t) ≤ max N (4503599627370496 * 2 ^ d) := by
    by_cases ht0 : t = 0
    · subst ht0; exact Nat.le_max_right _ _
    · have h0 : N ≠ 0 := by
        rintro rfl
        simp at ht; omega
      refine Nat.le_trans ?_ (Nat.le_max_left _ _)
      rw [show (4503599627370496 : Nat) = 2 ^ 52 by rfl, ← Nat.pow_add]
      exact Nat.le_trans (Nat.pow_le_pow_right (by omega) (by omega)) (Nat.log2_self_le h0)
  generalize rne N (d + t) * 2 ^ (d + t) = a at *
  generalize 2 ^ (d + t) = p at *
  generalize max N (4503599627370496 * 2 ^ d) = b at *
  omega
/-- A whole number of units: no farther off than 2^-53 of it. -/
theorem rnd_err0 (N : Nat) : 9007199254740992 * mag (rnd N 0) ≤ 9007199254740992 * N + N ∧ 9007199254740992 * N ≤ 9007199254740992 * mag (rnd N 0) + N := by
  by_cases h : N < 4503599627370496
  · have hl : N.log2 - (0 + 52) = 0 := by
      by_cases h0 : N = 0
      · subst h0; rfl
      · have : N.log2 < 52 := (Nat.log2_lt h0).2 (by omega)
        omega
    have e : mag (rnd N 0) = N := by
      rw [mag_rnd, hl, rne_d0, Nat.pow_zero, Nat.mul_one]
    rw [e]; omega
  · have := rnd_err N 0
    rw [Nat.pow_zero, Nat.mul_one, Nat.mul_one, Nat.max_eq_left (by omega)] at this
    exact this
end Go.Proofs.Ytjjneiidggcfdaa.Fl
set_option linter.unusedVariables false
namespace Go.Proofs.Ytjjneiidggcfdaa.Fl
open Ieee

theorem scl_whole (N : Nat) : scl N 0 = cap (rnd N 0) := by
  unfold scl
  rw [if_pos (Int.le_refl 0)]
  simp
theorem scl_down (N d : Nat) (hd : 0 < d) : scl N (-(d : Int)) = cap (rnd N d) := by
  unfold scl
  rw [if_neg (by omega)]
  congr 2
  omega
theorem add_fin {x y : Nat} (hx : rung x < INF) (hy : rung y < INF) :
    ∃ s, double.add x y = some (wd s (cap (rnd (val x + val y).natAbs 0))) ∧ (val x + val y ≠ 0 → s = decide (val x + val y < 0)) := by
  obtain ⟨m, u, e, hm⟩ := read_fin hx
  obtain ⟨n, v, e2, hn⟩ := read_fin hy
  obtain ⟨k, hk⟩ : ∃ k, min u v = k := ⟨_, rfl⟩
  have hb : min (-1074 + (u : Int)) (-1074 + (v : Int)) = -1074 + (k : Int) := by omega
  have hu : (-1074 + (u : Int) - (-1074 + (k : Int))).toNat + k = u := by omega
  have hv : (-1074 + (v : Int) - (-1074 + (k : Int))).toNat + k = v := by omega
  obtain ⟨T, hT⟩ : ∃ T, signed (sg x) m (-1074 + (u : Int) - (-1074 + (k : Int))).toNat + signed (sg y) n (-1074 + (v : Int) - (-1074 + (k : Int))).toNat = T := ⟨_, rfl⟩
  have hv1 : signed (sg x) m u = val x := by rw [signed_val hm]; rfl
  have hv2 : signed (sg y) n v = val y := by rw [signed_val hn]; rfl
  have hTv : T * ((2 ^ k : Nat) : Int) = val x + val y := by
    rw [← hT, Int.add_mul, signed_pow, signed_pow, hu, hv, hv1, hv2]
  have hp : 0 < ((2 ^ k : Nat) : Int) := by have := Nat.two_pow_pos k; omega
  have habs : T.natAbs * 2 ^ k = (val x + val y).natAbs := by rw [← hTv, Int.natAbs_mul, Int.natAbs_natCast]
  have hneg : (T < 0) ↔ (val x + val y < 0) := by
    rw [← hTv]
    constructor
    · intro h; exact Int.mul_neg_of_neg_of_pos h hp
    · intro h
      rcases Int.lt_or_le T 0 with h1 | h1
      · exact h1
      · have := Int.mul_nonneg h1 (Int.le_of_lt hp); omega
  have hzero : T = 0 → val x + val y = 0 := by rintro rfl; rw [← hTv]; simp
  refine ⟨(if T = 0 then (sg x && sg y) else decide (T < 0)), ?_, ?_⟩
  · unfold Format.add
    rw [e, e2]
    simp only [Datum.sum, Option.map_some, Format.write, hb, hT]
    rw [nearest_scl, show (-1074 + (k : Int) + 1074) = ((k : Int) + 0) by omega, ← scl_shift, habs, scl_whole]
  · intro h0
    have : T ≠ 0 := fun h => h0 (hzero h)
    rw [if_neg this]
    exact decide_eq_decide.2 hneg
theorem mul_fin {x y : Nat} (hx : rung x < INF) (hy : rung y < INF) :
    double.mul x y = some (wd (sg x ^^ sg y) (cap (rnd (mag (rung x) * mag (rung y)) 1074))) := by
  obtain ⟨m, u, e, hm⟩ := read_fin hx
  obtain ⟨n, v, e2, hn⟩ := read_fin hy
  unfold Format.mul
  rw [e, e2]
  simp only [Datum.product, Option.map_some, Format.write]
  have h1 : scl (m * n) (-1074 + (u : Int) + (-1074 + (v : Int)) + 1074) = cap (rnd (mag (rung x) * mag (rung y)) 1074) := by
    rw [← scl_down _ 1074 (by omega), ← hm, ← hn, show m * 2 ^ u * (n * 2 ^ v) = m * n * 2 ^ (u + v) by rw [Nat.pow_add]; simp only [Nat.mul_assoc, Nat.mul_left_comm], scl_shift]
    congr 1
    omega
  rw [nearest_scl, h1]
end Go.Proofs.Ytjjneiidggcfdaa.Fl
set_option linter.unusedVariables false
namespace Go.Proofs.Ytjjneiidggcfdaa.Fl
open Ieee

theorem val_wd (s : Bool) {r : Nat} (h : r < 9223372036854775808) : val (wd s r) = if s then -(mag r : Int) else (mag r : Int) := by
  unfold val
  rw [sg_wd s h, rung_wd s h]
theorem cap_lt (r : Nat) : cap r < 9223372036854775808 := by
  have := cap_le r
  have := INF_val
  omega
theorem cap_fin {r : Nat} (h : cap r < INF) : cap r = r := by unfold cap at *; omega
theorem add_err {x y r : Nat} (hx : rung x < INF) (hy : rung y < INF) (h : double.add x y = some r) (hr : rung r < INF) :
    9007199254740992 * (val r - (val x + val y)).natAbs ≤ (val x + val y).natAbs := by
  obtain ⟨s, h1, h2⟩ := add_fin hx hy
  rw [h] at h1
  obtain rfl : r = _ := Option.some.inj h1
  rw [rung_wd s (cap_lt _)] at hr
  rw [val_wd s (cap_lt _), cap_fin hr]
  generalize val x + val y = S at *
  have he := rnd_err0 S.natAbs
  generalize mag (rnd S.natAbs 0) = M at *
  by_cases h0 : S = 0
  · subst h0
    have hM : M = 0 := by
      have := he.1
      simp at this
      omega
    subst hM
    cases s <;> simp
  · have hs := h2 h0
    by_cases hn : S < 0
    · rw [show s = true by rw [hs]; simp [hn]]
      simp only [if_true]
      omega
    · rw [show s = false by rw [hs]; simp [hn]]
      simp only [Bool.false_eq_true, if_false]
      omega
theorem mul_err {x y r : Nat} (hx : rung x < INF) (hy : rung y < INF) (h : double.mul x y = some r) (hr : rung r < INF) :
    9007199254740992 * (val r * ((2 ^ 1074 : Nat) : Int) - val x * val y).natAbs ≤ max (val x * val y).natAbs (4503599627370496 * 2 ^ 1074) := by
  have h1 := mul_fin hx hy
  rw [h] at h1
  obtain rfl : r = _ := Option.some.inj h1
  rw [rung_wd _ (cap_lt _)] at hr
  rw [val_wd _ (cap_lt _), cap_fin hr]
  have he := rnd_err (mag (rung x) * mag (rung y)) 1074
  generalize 2 ^ 1074 = p at *
  have hxy : val x * val y = if (sg x ^^ sg y) = true then -((mag (rung x) * mag (rung y) : Nat) : Int) else ((mag (rung x) * mag (rung y) : Nat) : Int) := by
    unfold val
    cases sg x <;> cases sg y <;> simp [Int.neg_mul, Int.mul_neg]
  rw [hxy]
  generalize mag (rung x) * mag (rung y) = N at *
  obtain ⟨M, hM⟩ : ∃ M, mag (rnd N 1074) * p = M := ⟨_, rfl⟩
  have e : ∀ z : Int, z = (mag (rnd N 1074) : Int) → z * (p : Int) = (M : Int) := by rintro z rfl; rw [← hM, Int.natCast_mul]
  rw [hM] at he
  cases sg x ^^ sg y
  · simp only [Bool.false_eq_true, if_false]
    rw [e _ rfl]
    generalize 4503599627370496 * p = q at *
    omega
  · simp only [if_true]
    rw [Int.neg_mul, e _ rfl]
    generalize 4503599627370496 * p = q at *
    omega
theorem inf_word (s : Bool) : rung (double.write (.infinity s)) = INF := by
  show rung (double.word s double.infRung) = INF
  rw [dbl_word, dbl_inf, rung_wd s (by rw [INF_val]; omega)]
theorem add_back {x y r : Nat} (h : double.add x y = some r) (hr : rung r < INF) : rung x < INF ∧ rung y < INF := by
  unfold Format.add at h
  rcases Nat.lt_trichotomy (rung x) INF with hx | hx | hx
  · rcases Nat.lt_trichotomy (rung y) INF with hy | hy | hy
    · exact ⟨hx, hy⟩
    · obtain ⟨m, u, e, _⟩ := read_fin hx
      rw [e, read_inf hy] at h
      simp only [Datum.sum, Option.map_some, Option.some.injEq] at h
      rw [← h, inf_word] at hr; omega
    · obtain ⟨m, u, e, _⟩ := read_fin hx
      rw [e, read_nan hy] at h
      simp [Datum.sum] at h
  · rw [read_inf hx] at h
    rcases Nat.lt_trichotomy (rung y) INF with hy | hy | hy
    · obtain ⟨m, u, e, _⟩ := read_fin hy
      rw [e] at h
      simp only [Datum.sum, Option.map_some, Option.some.injEq] at h
      rw [← h, inf_word] at hr; omega
    · rw [read_inf hy] at h
      simp only [Datum.sum] at h
      split at h
      · simp only [Option.map_some, Option.some.injEq] at h
        rw [← h, inf_word] at hr; omega
      · simp at h
    · rw [read_nan hy] at h
      simp [Datum.sum] at h
  · rw [read_nan hx] at h
    simp [Datum.sum] at h
theorem mul_back {x y r : Nat} (h : double.mul x y = some r) (hr : rung r < INF) : rung x < INF ∧ rung y < INF := by
  unfold Format.mul at h
  rcases Nat.lt_trichotomy (rung x) INF with hx | hx | hx
  · rcases Nat.lt_trichotomy (rung y) INF with hy | hy | hy
    · exact ⟨hx, hy⟩
    · obtain ⟨m, u, e, _⟩ := read_fin hx
      rw [e, read_inf hy] at h
      simp only [Datum.product] at h
      split at h
      · simp at h
      · simp only [Option.map_some, Option.some.injEq] at h
        rw [← h, inf_word] at hr; omega
    · obtain ⟨m, u, e, _⟩ := read_fin hx
      rw [e, read_nan hy] at h
      simp [Datum.product] at h
  · rw [read_inf hx] at h
    rcases Nat.lt_trichotomy (rung y) INF with hy | hy | hy
    · obtain ⟨m, u, e, _⟩ := read_fin hy
      rw [e] at h
      simp only [Datum.product] at h
      split at h
      · simp at h
      · simp only [Option.map_some, Option.some.injEq] at h
        rw [← h, inf_word] at hr; omega
    · rw [read_inf hy] at h
      simp only [Datum.product, Option.map_some, Option.some.injEq] at h
      rw [← h, inf_word] at hr; omega
    · rw [read_nan hy] at h
      simp [Datum.product] at h
  · rw [read_nan hx] at h
    simp [Datum.product] at h
/-- Nothing and a number: the number. -/
theorem add_zero_val {y r : Nat} (hy : rung y < INF) (h : double.add 0 y = some r) : val r = val y := by
  have h0 : val 0 = 0 := by decide
  obtain ⟨s, h1, h2⟩ := add_fin (x := 0) (by decide) hy
  rw [h] at h1
  obtain rfl : r = _ := Option.some.inj h1
  rw [h0, Int.zero_add] at *
  have e : (val y).natAbs = mag (rung y) := by unfold val; split <;> omega
  have hs := scl_self hy
  rw [scl_whole] at hs
  rw [e, hs, val_wd s (rung_lt y)]
  by_cases hz : val y = 0
  · have hm : mag (rung y) = 0 := by rw [← e, hz]; rfl
    rw [hm, hz]; cases s <;> simp
  · rw [h2 hz]
    unfold val at hz ⊢
    cases hg : sg y
    · simp only [hg, Bool.false_eq_true, if_false] at hz ⊢
      rw [decide_eq_false (by omega)]; simp
    · simp only [hg, if_true] at hz ⊢
      rw [decide_eq_true (by omega)]; simp
end Go.Proofs.Ytjjneiidggcfdaa.Fl
set_option linter.unusedVariables false
namespace Go.Proofs.Ytjjneiidggcfdaa

theorem fbin_some {op : BinOp} {x y r : Nat} (h : fbin op x y = r) (hr : Fl.rung r < Fl.INF) : floatBits op .f64 x y = some r := by
  unfold fbin at h
  cases hb : floatBits op .f64 x y with
  | some z => rw [hb] at h; exact congrArg some h
  | none =>
    rw [hb] at h
    have h : NANW = r := h
    subst h
    exact absurd hr (by decide)
/-- The exact sum of the first products, in units of 2^-2148. -/
def dotE (l m : List Nat) : Nat → Int
  | 0 => 0
  | k + 1 => dotE l m k + Fl.val (l.getD k 0) * Fl.val (m.getD k 0)
/-- The exact sum of the first products without signs. -/
def dotA (l m : List Nat) : Nat → Nat
  | 0 => 0
  | k + 1 => dotA l m k + (Fl.val (l.getD k 0) * Fl.val (m.getD k 0)).natAbs
theorem dotE_le (l m : List Nat) : ∀ k, (dotE l m k).natAbs ≤ dotA l m k
  | 0 => by simp [dotE]
  | k + 1 => by
    have := dotE_le l m k
    unfold dotE dotA
    generalize Fl.val (l.getD k 0) * Fl.val (m.getD k 0) = P
    omega
theorem close_lin {a b c A P K X Y Z : Nat} (h1 : 4503599627370496 * a ≤ X + Y) (hX : X ≤ 60 * A) (hY : Y ≤ 60 * (4503599627370496 * K)) (hZ : P ≤ Z) (h2 : 9007199254740992 * b ≤ max P (4503599627370496 * K)) (h3 : 9007199254740992 * c ≤ A + a + P + b) :
    4503599627370496 * (a + b + c) ≤ X + A + Z + P + Y + 4503599627370496 * K := by
  omega
theorem dot_close (l m : List Nat) : ∀ n, n ≤ 60 → Fl.rung (dotF l m n) < Fl.INF →
    4503599627370496 * (Fl.val (dotF l m n) * ((2 ^ 1074 : Nat) : Int) - dotE l m n).natAbs ≤ n * (dotA l m n + 4503599627370496 * 2 ^ 1074)
  | 0, _, _ => by
    have h0 : Fl.val (dotF l m 0) = 0 := by unfold dotF; decide
    rw [h0, Int.zero_mul]
    exact Nat.le_trans (show 4503599627370496 * (0 - dotE l m 0).natAbs ≤ 0 by simp [dotE]) (Nat.zero_le _)
  | n + 1, hn, hr => by
    have hs := fbin_some (op := .add) (x := dotF l m n) (y := fbin .mul (l.getD n 0) (m.getD n 0)) rfl hr
    have hs : Ieee.double.add (dotF l m n) (fbin .mul (l.getD n 0) (m.getD n 0)) = some (dotF l m (n + 1)) := hs
    obtain ⟨hfs, hfp⟩ := Fl.add_back hs hr
    have hp := fbin_some (op := .mul) (x := l.getD n 0) (y := m.getD n 0) rfl hfp
    have hp : Ieee.double.mul (l.getD n 0) (m.getD n 0) = some (fbin .mul (l.getD n 0) (m.getD n 0)) := hp
    obtain ⟨hfx, hfy⟩ := Fl.mul_back hp hfp
    have hb := Fl.mul_err hfx hfy hp hfp
    have hc := Fl.add_err hfs hfp hs hr
    have hE : dotE l m (n + 1) = dotE l m n + Fl.val (l.getD n 0) * Fl.val (m.getD n 0) := rfl
    have hA : dotA l m (n + 1) = dotA l m n + (Fl.val (l.getD n 0) * Fl.val (m.getD n 0)).natAbs := rfl
    have hEA := dotE_le l m n
    rw [hE, hA]
    generalize Fl.val (l.getD n 0) * Fl.val (m.getD n 0) = P at *
    by_cases h0 : n = 0
    · subst h0
      have h1 := Fl.add_zero_val hfp hs
      rw [h1, show dotE l m 0 = 0 from rfl, show dotA l m 0 = 0 from rfl]
      generalize Fl.val (fbin .mul (l.getD 0 0) (m.getD 0 0)) * ((2 ^ 1074 : Nat) : Int) = q at *
      generalize 4503599627370496 * 2 ^ 1074 = Y at *
      omega
    · have ih := dot_close l m n (by omega) hfs
      have hK : 0 < 2 ^ 1074 := Nat.two_pow_pos 1074
      generalize Fl.val (dotF l m (n + 1)) = r at *
      generalize Fl.val (dotF l m n) = s at *
      generalize Fl.val (fbin .mul (l.getD n 0) (m.getD n 0)) = p at *
      generalize 2 ^ 1074 = K at *
      generalize dotE l m n = S at *
      generalize dotA l m n = A at *
      have hd : r * (K : Int) - (S + P) = (s * (K : Int) - S) + (p * (K : Int) - P) + (r - (s + p)) * (K : Int) := by
        rw [Int.sub_mul, Int.add_mul]; omega
      have hcK : ((r - (s + p)) * (K : Int)).natAbs = (r - (s + p)).natAbs * K := by rw [Int.natAbs_mul, Int.natAbs_natCast]
      have hsK : ((s + p) * (K : Int)).natAbs = (s + p).natAbs * K := by rw [Int.natAbs_mul, Int.natAbs_natCast]
      have hc2 : 9007199254740992 * ((r - (s + p)) * (K : Int)).natAbs ≤ ((s + p) * (K : Int)).natAbs := by
        rw [hcK, hsK, ← Nat.mul_assoc]
        exact Nat.mul_le_mul_right K hc
      have hsp : (s + p) * (K : Int) = s * (K : Int) + p * (K : Int) := Int.add_mul s p K
      rw [hsp] at hc2
      rw [hd]
      clear hcK hsK hsp hd hs hp hr hfs hfp hfx hfy hE hA hc
      have hX : n * A ≤ 60 * A := Nat.mul_le_mul_right _ (by omega)
      have hY : n * (4503599627370496 * K) ≤ 60 * (4503599627370496 * K) := Nat.mul_le_mul_right _ (by omega)
      have hZ : P.natAbs ≤ n * P.natAbs := Nat.le_mul_of_pos_left _ (by omega)
      rw [Nat.mul_add] at ih
      have eR : (n + 1) * (A + P.natAbs + 4503599627370496 * K) = n * A + A + n * P.natAbs + P.natAbs + n * (4503599627370496 * K) + 4503599627370496 * K := by
        rw [Nat.add_mul, Nat.one_mul, Nat.mul_add, Nat.mul_add]; omega
      rw [eR]
      generalize n * A = X at *
      generalize n * (4503599627370496 * K) = Y at *
      generalize n * P.natAbs = Z at *
      generalize s * (K : Int) = sk at *
      generalize p * (K : Int) = pk at *
      generalize (r - (s + p)) * (K : Int) = ck at *
      have h3 : 9007199254740992 * ck.natAbs ≤ A + (sk - S).natAbs + P.natAbs + (pk - P).natAbs := by omega
      refine Nat.le_trans ?_ (close_lin ih hX hY hZ hb h3)
      omega
end Go.Proofs.Ytjjneiidggcfdaa
set_option linter.unusedVariables false
set_option linter.unusedSimpArgs false
set_option linter.unnecessarySimpa false
namespace Go.Proofs.Ytjjneiidggcfdaa
open Go.RowKit
attribute [local go_sem ↓] Go.wp_at_zero Go.wp_at_succ

theorem dot_step {l m : List Nat} {k s p r a b : Nat} (hs : Is s (dotF l m k)) (ha : l.getD k 0 = a) (hb : m.getD k 0 = b) (hal : a < 18446744073709551616) (hbl : b < 18446744073709551616) (hp : Comes .mul a b p) (hr : Comes .add s p r) : Is r (dotF l m (k + 1)) := by
  show Is r (fbin .add (dotF l m k) (fbin .mul (l.getD k 0) (m.getD k 0)))
  rw [ha, hb]
  exact hr.is_ hs (hp.is_ (Is.refl hal) (Is.refl hbl))
theorem lst_wds {l : List Nat} (h : Wds l) (o i K k : Nat) : (lst l o i K).getD k 0 < 18446744073709551616 := by
  have : ∀ (m : List Nat), Wds m → m.getD k 0 < 18446744073709551616 := by
    intro m hm
    rcases Nat.lt_or_ge k m.length with h1 | h1
    · rw [getD_of_lt h1]; exact hm.at_ k h1
    · rw [getD_of_le h1]; omega
  refine this _ fun b hb => ?_
  unfold lst at hb
  obtain ⟨j, _, rfl⟩ := List.mem_map.1 hb
  rcases Nat.lt_or_ge (o + j * i) l.length with h1 | h1
  · rw [getD_of_lt h1]; exact h.at_ _ h1
  · rw [getD_of_le h1]; omega

set_option maxRecDepth 100000 in
set_option maxHeartbeats 1000000 in
theorem dot_ok (A A' : Option Addr) (n c : Nat) (l : List Nat) (o K i : Nat) (n' c' : Nat) (l' : List Nat) (o' i' : Nat) (w : World) (hA : Row w A (f64s l)) (hA' : Row w A' (f64s l')) (hW : Wds l) (hW' : Wds l') (hl : l.length = n) (hl' : l'.length = n') (hn : n < 1048576) (hn' : n' < 1048576)
    (hr : K = 0 ∨ o + (K - 1) * i < n) (hr' : K = 0 ∨ o' + (K - 1) * i' < n') (hK : K < 1048576) (hv : vecB n o K i = true) (hv' : vecB n' o' K i' = true) (ho : I64 o) (hi : I64 i) (ho' : I64 o') (hi' : I64 i') :
    Calls Try.prog 10 #[vec A n c o K i, vec A' n' c' o' K i'] w fun e w' => ∃ r, e = .returned (.tuple #[.float .f64 r, .int .i64 0]) ∧ Is r (dotF (lst l o i K) (lst l' o' i' K) K) ∧ Below w.heap.size w w' := by
  have HR := Lib.hid (fun a (h : a < K) => show o + a * i < n from by
    rcases hr with h0 | h0
    · omega
    · exact place_lt h0 h)
  have HR' := Lib.hid (fun a (h : a < K) => show o' + a * i' < n' from by
    rcases hr' with h0 | h0
    · omega
    · exact place_lt h0 h)
  have HAt := Lib.hid (fun W (hb : Below w.heap.size w W) k (hk : k < K) => sat_any A n c l o K i k W (hA.below hb) hl hn (HR.out k hk))
  have HAt' := Lib.hid (fun W (hb : Below w.heap.size w W) k (hk : k < K) => sat_any A' n' c' l' o' K i' k W (hA'.below hb) hl' hn' (HR'.out k hk))
  have HRi := Lib.hid (fun W => right_any A n c o K i W (by omega) ho (by unfold I64; omega) hi)
  have HRi' := Lib.hid (fun W => right_any A' n' c' o' K i' W (by omega) ho' (by unfold I64; omega) hi')
  rw [hv] at HRi
  rw [hv'] at HRi'
  have HWl := Lib.hid (fun k => lst_wds hW o i K k)
  have HWl' := Lib.hid (fun k => lst_wds hW' o' i' K k)
  have HK := Lib.hid hK
  clear hA hA' hW hW' hl hl' hn hn' hr hr' hv hv' ho hi ho' hi' hK
  unfold vec at *
  go_enter Try.func10, Try.ntmps10
  have Ha0 := Lib.hid ((Blk.new w 30 #[.slice A n c, .int .i64 o, .int .i64 K, .int .i64 i]).alloc (.cells #[.slice A' n' c', .int .i64 o', .int .i64 K, .int .i64 i'] 30))
  have Hb0 := Lib.hid (Blk.new_ (w.alloc (.cells #[.slice A n c, .int .i64 o, .int .i64 K, .int .i64 i] 30)) 30 #[.slice A' n' c', .int .i64 o', .int .i64 K, .int .i64 i'] (w.heap.size + 1) (by simp))
  have HB0 := Lib.hid (((Below.refl w.heap.size w).alloc (Nat.le_refl _) (.cells #[.slice A n c, .int .i64 o, .int .i64 K, .int .i64 i] 30)).alloc (by simp) (.cells #[.slice A' n' c', .int .i64 o', .int .i64 K, .int .i64 i'] 30))
  go_wp2_with fail
  refine (HRi.out _).mono ?_
  rintro e w1 ⟨rfl, hb⟩
  have Ha1 := Lib.hid (Ha0.out.nxt hb)
  have Hb1 := Lib.hid (Hb0.out.nxt hb)
  have HB1 := Lib.hid (below_nx HB0.out hb)
  clear hb
  obtain ⟨b0, b1, b2, b3⟩ := cells4w Hb1.out
  go_wp2_with fail
  refine (HRi'.out _).mono ?_
  rintro e w2 ⟨rfl, hb⟩
  have Ha2 := Lib.hid (Ha1.out.nxt hb)
  have Hb2 := Lib.hid (Hb1.out.nxt hb)
  have HB2 := Lib.hid (below_nx HB1.out hb)
  clear hb b0 b1 b2 b3
  obtain ⟨a0, a1, a2, a3⟩ := cells4w Ha2.out
  obtain ⟨b0, b1, b2, b3⟩ := cells4w Hb2.out
  go_wp2_with fail
  clear a0 a1 a2 a3 b0 b1 b2 b3
  go_loopw [6, 25] (fun s a wr => ∃ q r : Nat, q ≤ K ∧ s = .float .f64 r ∧ a = .int .i64 q ∧ Is r (dotF (lst l o i K) (lst l' o' i' K) q) ∧ Below w.heap.size w wr ∧ Blk wr w.heap.size 30 #[.slice A n c, .int .i64 o, .int .i64 K, .int .i64 i] ∧ Blk wr (w.heap.size + 1) 30 #[.slice A' n' c', .int .i64 o', .int .i64 K, .int .i64 i']) (fun _ a _ => K - (intOf a).toNat)
  case atStart => exact ⟨0, 0, Nat.zero_le _, rfl, rfl, is_zero, HB2.out, Ha2.out, Hb2.out⟩
  case round =>
    obtain ⟨q, r, hq, rfl, rfl, his, hbl, ha, hb⟩ := hrel
    have HIs := Lib.hid his
    have HBl := Lib.hid hbl
    have Ha := Lib.hid ha
    have Hb := Lib.hid hb
    clear his hbl ha hb
    obtain ⟨a0, a1, a2, a3⟩ := cells4w Ha.out
    obtain ⟨b0, b1, b2, b3⟩ := cells4w Hb.out
    by_cases hlt : q < K
    · have HC := Lib.hid (fun W (hb : Below w.heap.size w W) => HAt.out W hb q hlt)
      have HC' := Lib.hid (fun W (hb : Below w.heap.size w W) => HAt'.out W hb q hlt)
      obtain ⟨x, hx⟩ : ∃ x, l.getD (o + q * i) 0 = x := ⟨_, rfl⟩
      obtain ⟨y, hy⟩ : ∃ y, l'.getD (o' + q * i') 0 = y := ⟨_, rfl⟩
      rw [hx] at HC
      rw [hy] at HC'
      have HX := Lib.hid ((lst_getD l o i hlt).trans hx)
      have HY := Lib.hid ((lst_getD l' o' i' hlt).trans hy)
      have HXl := Lib.hid (HWl.out q)
      have HYl := Lib.hid (HWl'.out q)
      rw [HX.out] at HXl
      rw [HY.out] at HYl
      have HSt := Lib.hid (fun p r' (hp : Comes .mul x y p) (hr' : Comes .add r p r') => dot_step HIs.out HX.out HY.out HXl.out HYl.out hp hr')
      have hqc : (q : Int) < (K : Int) := by omega
      have hq1 : q + 1 ≤ 1048576 := by have := HK.out; omega
      clear hx hy
      go_wp2_with fail
      refine wp_region_inv [28, 29, 30, 31, 32, 33, 34, 35, 36, 6] (fun d s W => (d 0 = true → s 28 = .float .f64 r) ∧ (d 1 = true → s 29 = .agg #[.slice A n c, .int .i64 o, .int .i64 K, .int .i64 i]) ∧ (d 2 = true → s 30 = .int .i64 (q : Int)) ∧ (d 3 = true → s 31 = .float .f64 x) ∧ (d 4 = true → s 32 = .agg #[.slice A' n' c', .int .i64 o', .int .i64 K, .int .i64 i']) ∧ (d 5 = true → s 33 = .int .i64 (q : Int)) ∧ (d 6 = true → s 34 = .float .f64 y) ∧ (d 7 = true → ∃ p, s 35 = .float .f64 p ∧ Comes .mul x y p) ∧ (d 8 = true → ∃ p, s 36 = .float .f64 p ∧ Is p (dotF (lst l o i K) (lst l' o' i' K) (q + 1))) ∧ (d 9 = true → ∃ p, s 6 = .float .f64 p ∧ Is p (dotF (lst l o i K) (lst l' o' i' K) (q + 1))) ∧ (d 9 = true → d 0 = true) ∧ (d 9 = false → s 6 = .float .f64 r) ∧ Below wr.heap.size wr W)
        rfl (by kernel_rfl) ?_ ?_ ?_
      · exact ⟨by simp, by simp, by simp, by simp, by simp, by simp, by simp, by simp, by simp, by simp, by simp, fun _ => by simp, (Below.refl _ _).drew⟩
      · refine ⟨?_, ?_, ?_, ?_, ?_, ?_, ?_, ?_, ?_, ?_, trivial⟩
        all_goals
          intro d s W hJ hfr hd hdep
          simp only [List.mem_cons, forall_eq_or_imp, List.not_mem_nil, false_implies, implies_true, and_true, Region.binds] at hdep
          have f2 := hfr 2 (by decide)
          have f3 := hfr 3 (by decide)
          have f7 := hfr 7 (by decide)
          simp at f2 f3 f7 hdep
          obtain ⟨h0, h1, h2, h3, h4, h5, h6, h7, h8, h9, x0, x1, hT⟩ := hJ
          unfold OpSteps
        · have hs6 := x1 (by cases h : d 9; rfl; have := x0 h; rw [hd] at this; cases this)
          simp [go_sem, evS, f2, f3, f7, hs6]
          exact ⟨fun _ => by simp [sput], fun h => by simpa [sput] using h1 (by simpa [did] using h), fun h => by simpa [sput] using h2 (by simpa [did] using h), fun h => by simpa [sput] using h3 (by simpa [did] using h), fun h => by simpa [sput] using h4 (by simpa [did] using h), fun h => by simpa [sput] using h5 (by simpa [did] using h), fun h => by simpa [sput] using h6 (by simpa [did] using h), fun h => by simpa [sput] using h7 (by simpa [did] using h), fun h => by simpa [sput] using h8 (by simpa [did] using h), fun h => by simpa [sput] using h9 (by simpa [did] using h), fun _ => by simp [did], by simpa [sput, did] using x1, hT⟩
        · obtain ⟨p0, p1, p2, p3⟩ := cells4w (Ha.out.below hT Ha.out.lt)
          simp [go_sem, evS, f2, f3, f7, p0, p1, p2, p3]
          exact ⟨fun h => by simpa [sput] using h0 (by simpa [did] using h), fun _ => by simp [sput], fun h => by simpa [sput] using h2 (by simpa [did] using h), fun h => by simpa [sput] using h3 (by simpa [did] using h), fun h => by simpa [sput] using h4 (by simpa [did] using h), fun h => by simpa [sput] using h5 (by simpa [did] using h), fun h => by simpa [sput] using h6 (by simpa [did] using h), fun h => by simpa [sput] using h7 (by simpa [did] using h), fun h => by simpa [sput] using h8 (by simpa [did] using h), fun h => by simpa [sput] using h9 (by simpa [did] using h), by simpa [sput, did] using x0, by simpa [sput, did] using x1, hT⟩
        · simp [go_sem, evS, f2, f3, f7]
          exact ⟨fun h => by simpa [sput] using h0 (by simpa [did] using h), fun h => by simpa [sput] using h1 (by simpa [did] using h), fun _ => by simp [sput], fun h => by simpa [sput] using h3 (by simpa [did] using h), fun h => by simpa [sput] using h4 (by simpa [did] using h), fun h => by simpa [sput] using h5 (by simpa [did] using h), fun h => by simpa [sput] using h6 (by simpa [did] using h), fun h => by simpa [sput] using h7 (by simpa [did] using h), fun h => by simpa [sput] using h8 (by simpa [did] using h), fun h => by simpa [sput] using h9 (by simpa [did] using h), by simpa [sput, did] using x0, by simpa [sput, did] using x1, hT⟩
        · have g1 := h1 (by simp [hdep])
          have g2 := h2 (by simp [hdep])
          simp [go_sem, evS, f2, f3, f7, g1, g2]
          refine (HC.out W (below_nx HBl.out hT)).mono ?_
          rintro e W' ⟨rfl, hb⟩
          refine ⟨_, rfl, ?_⟩
          exact ⟨fun h => by simpa [sput] using h0 (by simpa [did] using h), fun h => by simpa [sput] using h1 (by simpa [did] using h), fun h => by simpa [sput] using h2 (by simpa [did] using h), fun _ => by simp [sput], fun h => by simpa [sput] using h4 (by simpa [did] using h), fun h => by simpa [sput] using h5 (by simpa [did] using h), fun h => by simpa [sput] using h6 (by simpa [did] using h), fun h => by simpa [sput] using h7 (by simpa [did] using h), fun h => by simpa [sput] using h8 (by simpa [did] using h), fun h => by simpa [sput] using h9 (by simpa [did] using h), by simpa [sput, did] using x0, by simpa [sput, did] using x1, below_nx hT hb⟩
        · obtain ⟨p0, p1, p2, p3⟩ := cells4w (Hb.out.below hT Hb.out.lt)
          simp [go_sem, evS, f2, f3, f7, p0, p1, p2, p3]
          exact ⟨fun h => by simpa [sput] using h0 (by simpa [did] using h), fun h => by simpa [sput] using h1 (by simpa [did] using h), fun h => by simpa [sput] using h2 (by simpa [did] using h), fun h => by simpa [sput] using h3 (by simpa [did] using h), fun _ => by simp [sput], fun h => by simpa [sput] using h5 (by simpa [did] using h), fun h => by simpa [sput] using h6 (by simpa [did] using h), fun h => by simpa [sput] using h7 (by simpa [did] using h), fun h => by simpa [sput] using h8 (by simpa [did] using h), fun h => by simpa [sput] using h9 (by simpa [did] using h), by simpa [sput, did] using x0, by simpa [sput, did] using x1, hT⟩
        · simp [go_sem, evS, f2, f3, f7]
          exact ⟨fun h => by simpa [sput] using h0 (by simpa [did] using h), fun h => by simpa [sput] using h1 (by simpa [did] using h), fun h => by simpa [sput] using h2 (by simpa [did] using h), fun h => by simpa [sput] using h3 (by simpa [did] using h), fun h => by simpa [sput] using h4 (by simpa [did] using h), fun _ => by simp [sput], fun h => by simpa [sput] using h6 (by simpa [did] using h), fun h => by simpa [sput] using h7 (by simpa [did] using h), fun h => by simpa [sput] using h8 (by simpa [did] using h), fun h => by simpa [sput] using h9 (by simpa [did] using h), by simpa [sput, did] using x0, by simpa [sput, did] using x1, hT⟩
        · have g4 := h4 (by simp [hdep])
          have g5 := h5 (by simp [hdep])
          simp [go_sem, evS, f2, f3, f7, g4, g5]
          refine (HC'.out W (below_nx HBl.out hT)).mono ?_
          rintro e W' ⟨rfl, hb⟩
          refine ⟨_, rfl, ?_⟩
          exact ⟨fun h => by simpa [sput] using h0 (by simpa [did] using h), fun h => by simpa [sput] using h1 (by simpa [did] using h), fun h => by simpa [sput] using h2 (by simpa [did] using h), fun h => by simpa [sput] using h3 (by simpa [did] using h), fun h => by simpa [sput] using h4 (by simpa [did] using h), fun h => by simpa [sput] using h5 (by simpa [did] using h), fun _ => by simp [sput], fun h => by simpa [sput] using h7 (by simpa [did] using h), fun h => by simpa [sput] using h8 (by simpa [did] using h), fun h => by simpa [sput] using h9 (by simpa [did] using h), by simpa [sput, did] using x0, by simpa [sput, did] using x1, below_nx hT hb⟩
        · have g3 := h3 (by simp [hdep])
          have g6 := h6 (by simp [hdep])
          simp [go_sem, evS, f2, f3, f7, g3, g6]
          exact ⟨fun h => by simpa [sput] using h0 (by simpa [did] using h), fun h => by simpa [sput] using h1 (by simpa [did] using h), fun h => by simpa [sput] using h2 (by simpa [did] using h), fun h => by simpa [sput] using h3 (by simpa [did] using h), fun h => by simpa [sput] using h4 (by simpa [did] using h), fun h => by simpa [sput] using h5 (by simpa [did] using h), fun h => by simpa [sput] using h6 (by simpa [did] using h), fun _ => ⟨fres .mul W x y, by simp [sput], fres_comes _ _ _ _⟩, fun h => by simpa [sput] using h8 (by simpa [did] using h), fun h => by simpa [sput] using h9 (by simpa [did] using h), by simpa [sput, did] using x0, by simpa [sput, did] using x1, below_drewN hT _⟩
        · have g0 := h0 (by simp [hdep])
          have g7 := h7 (by simp [hdep])
          obtain ⟨p, gp, hp⟩ := g7
          simp [go_sem, evS, f2, f3, f7, g0, gp]
          exact ⟨fun h => by simpa [sput] using h0 (by simpa [did] using h), fun h => by simpa [sput] using h1 (by simpa [did] using h), fun h => by simpa [sput] using h2 (by simpa [did] using h), fun h => by simpa [sput] using h3 (by simpa [did] using h), fun h => by simpa [sput] using h4 (by simpa [did] using h), fun h => by simpa [sput] using h5 (by simpa [did] using h), fun h => by simpa [sput] using h6 (by simpa [did] using h), fun h => by simpa [sput] using h7 (by simpa [did] using h), fun _ => ⟨fres .add W r p, by simp [sput], HSt.out p _ hp (fres_comes _ _ _ _)⟩, fun h => by simpa [sput] using h9 (by simpa [did] using h), by simpa [sput, did] using x0, by simpa [sput, did] using x1, below_drewN hT _⟩
        · have g8 := h8 (by simp [hdep])
          obtain ⟨p, gp, hp⟩ := g8
          simp [go_sem, evS, f2, f3, f7, gp]
          exact ⟨fun h => by simpa [sput] using h0 (by simpa [did] using h), fun h => by simpa [sput] using h1 (by simpa [did] using h), fun h => by simpa [sput] using h2 (by simpa [did] using h), fun h => by simpa [sput] using h3 (by simpa [did] using h), fun h => by simpa [sput] using h4 (by simpa [did] using h), fun h => by simpa [sput] using h5 (by simpa [did] using h), fun h => by simpa [sput] using h6 (by simpa [did] using h), fun h => by simpa [sput] using h7 (by simpa [did] using h), fun h => by simpa [sput] using h8 (by simpa [did] using h), fun _ => ⟨p, by simp [sput], hp⟩, fun _ => by simp [did, hdep], fun h => by simp [did] at h, hT⟩
      intro d s W hJ hd
      obtain ⟨h0, h1, h2, h3, h4, h5, h6, h7, h8, h9, x0, x1, hT⟩ := hJ
      obtain ⟨p, hs6, hp⟩ := h9 (hd 9 (by decide))
      have HRes := Lib.hid hp
      have HBr := Lib.hid (below_nx HBl.out hT)
      have Har := Lib.hid (Ha.out.below hT Ha.out.lt)
      have Hbr := Lib.hid (Hb.out.below hT Hb.out.lt)
      clear h0 h1 h2 h3 h4 h5 h6 h7 h8 h9 x0 x1 hT hp hd
      simp [setAll, hs6]
      clear hs6
      go_wp2_with fail
      go_roundw
      case rel => exact ⟨q + 1, p, by omega, rfl, by go_num, HRes.out, HBr.out, Har.out, Hbr.out⟩
      case measure => simp [intOf]; omega
    · obtain rfl : q = K := by omega
      have hqc : ¬ (q : Int) < (q : Int) := by omega
      go_wp2_with fail
      go_ret2
      exact ⟨_, rfl, HIs.out, HBl.out⟩
end Go.Proofs.Ytjjneiidggcfdaa
set_option linter.unusedVariables false
set_option linter.unusedSimpArgs false
set_option linter.unnecessarySimpa false
namespace Go.Proofs.Ytjjneiidggcfdaa
open Go.RowKit
attribute [local go_sem ↓] Go.wp_at_zero Go.wp_at_succ

/-- The place that is told: -1 of no numbers. -/
def mostI (l : List Nat) : Int := if l.length = 0 then -1 else (mostF l l.length : Int)
set_option maxRecDepth 100000 in
set_option maxHeartbeats 1000000 in
theorem most_ok (A : Option Addr) (n c : Nat) (l : List Nat) (o K i : Nat) (w : World) (hA : Row w A (f64s l)) (hW : Wds l) (hl : l.length = n) (hn : n < 1048576)
    (hr : K = 0 ∨ o + (K - 1) * i < n) (hK : K < 1048576) (hv : vecB n o K i = true) (ho : I64 o) (hi : I64 i) :
    Calls Try.prog 38 #[vec A n c o K i] w fun e w' => e = .returned (.tuple #[.int .i64 (mostI (lst l o i K)), .int .i64 0]) ∧ Below w.heap.size w w' := by
  have HR := Lib.hid (fun a (h : a < K) => show o + a * i < n from by
    rcases hr with h0 | h0
    · omega
    · exact place_lt h0 h)
  have HAt := Lib.hid (fun W (hb : Below w.heap.size w W) k (hk : k < K) => sat_any A n c l o K i k W (hA.below hb) hl hn (HR.out k hk))
  have HRi := Lib.hid (fun W => right_any A n c o K i W (by omega) ho (by unfold I64; omega) hi)
  rw [hv] at HRi
  have HWl := Lib.hid (fun k => lst_wds hW o i K k)
  have HK := Lib.hid hK
  clear hA hW hl hn hr hv ho hi hK
  have HM := Lib.hid (show mostI (lst l o i K) = if K = 0 then -1 else (mostF (lst l o i K) K : Int) by unfold mostI; rw [lst_length])
  unfold vec at *
  go_enter Try.func38, Try.ntmps38
  have Ha0 := Lib.hid (Blk.new w 30 #[.slice A n c, .int .i64 o, .int .i64 K, .int .i64 i])
  have HB0 := Lib.hid ((Below.refl w.heap.size w).alloc (Nat.le_refl _) (.cells #[.slice A n c, .int .i64 o, .int .i64 K, .int .i64 i] 30))
  go_wp2_with fail
  refine (HRi.out _).mono ?_
  rintro e w1 ⟨rfl, hb⟩
  have Ha1 := Lib.hid (Ha0.out.nxt hb)
  have HB1 := Lib.hid (below_nx HB0.out hb)
  clear hb
  obtain ⟨a0, a1, a2, a3⟩ := cells4w Ha1.out
  by_cases h0 : K = 0
  · subst h0
    go_wp2_with fail
    go_ret2
    exact ⟨by rw [HM.out]; rfl, HB1.out⟩
  have k0 : ((K : Int) == 0) = false := by simp [h0]
  go_wp2_with fail
  clear a0 a1 a2 a3
  go_loopw [4, 14] (fun b a wr => ∃ q t : Nat, q ≤ K ∧ b = .int .i64 t ∧ a = .int .i64 q ∧ t = mostF (lst l o i K) q ∧ Below w.heap.size w wr ∧ Blk wr w.heap.size 30 #[.slice A n c, .int .i64 o, .int .i64 K, .int .i64 i]) (fun _ a _ => K - (intOf a).toNat)
  case atStart => exact ⟨0, 0, Nat.zero_le _, rfl, rfl, rfl, HB1.out, Ha1.out⟩
  case round =>
    obtain ⟨q, t, hq, rfl, rfl, ht, hbl, ha⟩ := hrel
    have HT := Lib.hid ht
    have HBl := Lib.hid hbl
    have Ha := Lib.hid ha
    clear ht hbl ha
    obtain ⟨a0, a1, a2, a3⟩ := cells4w Ha.out
    by_cases hlt : q < K
    · have htK : t < K := by
        rw [HT.out]
        by_cases hq0 : q = 0
        · subst hq0; exact hlt
        · have := mostF_lt (lst l o i K) q (by omega); omega
      have hstep : mostF (lst l o i K) (q + 1) = if gtB (absW ((lst l o i K).getD q 0)) (absW ((lst l o i K).getD t 0)) then q else t := by rw [mostF, ← HT.out]
      rw [lst_getD l o i hlt, lst_getD l o i htK] at hstep
      have hxl := HWl.out q
      have hyl := HWl.out t
      rw [lst_getD l o i hlt] at hxl
      rw [lst_getD l o i htK] at hyl
      have HC := Lib.hid (fun W (hb : Below wr.heap.size wr W) (j x : Nat) (hj : (j = q ∧ x = l.getD (o + q * i) 0) ∨ (j = t ∧ x = l.getD (o + t * i) 0)) =>
        show Calls Try.prog 41 #[.agg #[.slice A n c, .int .i64 o, .int .i64 K, .int .i64 i], .int .i64 j] W fun e w' => e = .returned (.float .f64 x) ∧ Below W.heap.size W w' from by
          rcases hj with ⟨rfl, rfl⟩ | ⟨rfl, rfl⟩
          · exact HAt.out W (below_nx HBl.out hb) _ hlt
          · exact HAt.out W (below_nx HBl.out hb) _ htK)
      obtain ⟨x, hx⟩ : ∃ x, l.getD (o + q * i) 0 = x := ⟨_, rfl⟩
      obtain ⟨y, hy⟩ : ∃ y, l.getD (o + t * i) 0 = y := ⟨_, rfl⟩
      rw [hx, hy] at HC hstep
      rw [hx] at hxl
      rw [hy] at hyl
      have HAb := Lib.hid (fun W (b : Nat) (hb : b = x ∨ b = y) => mabs_any b W (by rcases hb with rfl | rfl; exact hxl; exact hyl))
      have HSt := Lib.hid hstep
      have hqc : (q : Int) < (K : Int) := by omega
      have hq1 : q + 1 ≤ 1048576 := by have := HK.out; omega
      have HtK := Lib.hid htK
      clear hx hy hstep hxl hyl htK
      obtain ⟨gt, hgt⟩ : ∃ gt, gtB (absW x) (absW y) = gt := ⟨_, rfl⟩
      rw [hgt] at HSt
      have hgt2 : (FloatKind.f64.format.order (absW x) (absW y) == some .gt) = gt := hgt
      clear hgt
      go_wp2_with fail
      refine wp_region_inv [17, 18, 19, 20, 21, 22, 23, 24, 25] (fun d s W => (d 0 = true → s 17 = .agg #[.slice A n c, .int .i64 o, .int .i64 K, .int .i64 i]) ∧ (d 1 = true → s 18 = .int .i64 (q : Int)) ∧ (d 2 = true → s 19 = .float .f64 x) ∧ (d 3 = true → s 20 = .float .f64 (absW x)) ∧ (d 4 = true → s 21 = .agg #[.slice A n c, .int .i64 o, .int .i64 K, .int .i64 i]) ∧ (d 5 = true → s 22 = .int .i64 (t : Int)) ∧ (d 6 = true → s 23 = .float .f64 y) ∧ (d 7 = true → s 24 = .float .f64 (absW y)) ∧ (d 8 = true → s 25 = .bool gt) ∧ Below wr.heap.size wr W)
        rfl (by kernel_rfl) ?_ ?_ ?_
      · exact ⟨by simp, by simp, by simp, by simp, by simp, by simp, by simp, by simp, by simp, (Below.refl _ _).drew⟩
      · refine ⟨?_, ?_, ?_, ?_, ?_, ?_, ?_, ?_, ?_, trivial⟩
        all_goals
          intro d s W hJ hfr hd hdep
          simp only [List.mem_cons, forall_eq_or_imp, List.not_mem_nil, false_implies, implies_true, and_true, Region.binds] at hdep
          have f1 := hfr 1 (by decide)
          have f4 := hfr 4 (by decide)
          have f5 := hfr 5 (by decide)
          simp at f1 f4 f5 hdep
          obtain ⟨h0, h1, h2, h3, h4, h5, h6, h7, h8, hT⟩ := hJ
          unfold OpSteps
        · obtain ⟨p0, p1, p2, p3⟩ := cells4w (Ha.out.below hT Ha.out.lt)
          simp [go_sem, evS, f1, f4, f5, p0, p1, p2, p3]
          exact ⟨fun _ => by simp [sput], fun h => by simpa [sput] using h1 (by simpa [did] using h), fun h => by simpa [sput] using h2 (by simpa [did] using h), fun h => by simpa [sput] using h3 (by simpa [did] using h), fun h => by simpa [sput] using h4 (by simpa [did] using h), fun h => by simpa [sput] using h5 (by simpa [did] using h), fun h => by simpa [sput] using h6 (by simpa [did] using h), fun h => by simpa [sput] using h7 (by simpa [did] using h), fun h => by simpa [sput] using h8 (by simpa [did] using h), hT⟩
        · simp [go_sem, evS, f1, f4, f5]
          exact ⟨fun h => by simpa [sput] using h0 (by simpa [did] using h), fun _ => by simp [sput], fun h => by simpa [sput] using h2 (by simpa [did] using h), fun h => by simpa [sput] using h3 (by simpa [did] using h), fun h => by simpa [sput] using h4 (by simpa [did] using h), fun h => by simpa [sput] using h5 (by simpa [did] using h), fun h => by simpa [sput] using h6 (by simpa [did] using h), fun h => by simpa [sput] using h7 (by simpa [did] using h), fun h => by simpa [sput] using h8 (by simpa [did] using h), hT⟩
        · have g0 := h0 (by simp [hdep])
          have g1 := h1 (by simp [hdep])
          simp [go_sem, evS, f1, f4, f5, g0, g1]
          refine (HC.out W hT q x (.inl ⟨rfl, rfl⟩)).mono ?_
          rintro e W' ⟨rfl, hb⟩
          refine ⟨_, rfl, ?_⟩
          exact ⟨fun h => by simpa [sput] using h0 (by simpa [did] using h), fun h => by simpa [sput] using h1 (by simpa [did] using h), fun _ => by simp [sput], fun h => by simpa [sput] using h3 (by simpa [did] using h), fun h => by simpa [sput] using h4 (by simpa [did] using h), fun h => by simpa [sput] using h5 (by simpa [did] using h), fun h => by simpa [sput] using h6 (by simpa [did] using h), fun h => by simpa [sput] using h7 (by simpa [did] using h), fun h => by simpa [sput] using h8 (by simpa [did] using h), below_nx hT hb⟩
        · have g2 := h2 (by simp [hdep])
          simp [go_sem, evS, f1, f4, f5, g2]
          refine (HAb.out W x (.inl rfl)).mono ?_
          rintro e W' ⟨rfl, rfl⟩
          refine ⟨_, rfl, ?_⟩
          exact ⟨fun h => by simpa [sput] using h0 (by simpa [did] using h), fun h => by simpa [sput] using h1 (by simpa [did] using h), fun h => by simpa [sput] using h2 (by simpa [did] using h), fun _ => by simp [sput], fun h => by simpa [sput] using h4 (by simpa [did] using h), fun h => by simpa [sput] using h5 (by simpa [did] using h), fun h => by simpa [sput] using h6 (by simpa [did] using h), fun h => by simpa [sput] using h7 (by simpa [did] using h), fun h => by simpa [sput] using h8 (by simpa [did] using h), hT⟩
        · obtain ⟨p0, p1, p2, p3⟩ := cells4w (Ha.out.below hT Ha.out.lt)
          simp [go_sem, evS, f1, f4, f5, p0, p1, p2, p3]
          exact ⟨fun h => by simpa [sput] using h0 (by simpa [did] using h), fun h => by simpa [sput] using h1 (by simpa [did] using h), fun h => by simpa [sput] using h2 (by simpa [did] using h), fun h => by simpa [sput] using h3 (by simpa [did] using h), fun _ => by simp [sput], fun h => by simpa [sput] using h5 (by simpa [did] using h), fun h => by simpa [sput] using h6 (by simpa [did] using h), fun h => by simpa [sput] using h7 (by simpa [did] using h), fun h => by simpa [sput] using h8 (by simpa [did] using h), hT⟩
        · simp [go_sem, evS, f1, f4, f5]
          exact ⟨fun h => by simpa [sput] using h0 (by simpa [did] using h), fun h => by simpa [sput] using h1 (by simpa [did] using h), fun h => by simpa [sput] using h2 (by simpa [did] using h), fun h => by simpa [sput] using h3 (by simpa [did] using h), fun h => by simpa [sput] using h4 (by simpa [did] using h), fun _ => by simp [sput], fun h => by simpa [sput] using h6 (by simpa [did] using h), fun h => by simpa [sput] using h7 (by simpa [did] using h), fun h => by simpa [sput] using h8 (by simpa [did] using h), hT⟩
        · have g4 := h4 (by simp [hdep])
          have g5 := h5 (by simp [hdep])
          simp [go_sem, evS, f1, f4, f5, g4, g5]
          refine (HC.out W hT t y (.inr ⟨rfl, rfl⟩)).mono ?_
          rintro e W' ⟨rfl, hb⟩
          refine ⟨_, rfl, ?_⟩
          exact ⟨fun h => by simpa [sput] using h0 (by simpa [did] using h), fun h => by simpa [sput] using h1 (by simpa [did] using h), fun h => by simpa [sput] using h2 (by simpa [did] using h), fun h => by simpa [sput] using h3 (by simpa [did] using h), fun h => by simpa [sput] using h4 (by simpa [did] using h), fun h => by simpa [sput] using h5 (by simpa [did] using h), fun _ => by simp [sput], fun h => by simpa [sput] using h7 (by simpa [did] using h), fun h => by simpa [sput] using h8 (by simpa [did] using h), below_nx hT hb⟩
        · have g6 := h6 (by simp [hdep])
          simp [go_sem, evS, f1, f4, f5, g6]
          refine (HAb.out W y (.inr rfl)).mono ?_
          rintro e W' ⟨rfl, rfl⟩
          refine ⟨_, rfl, ?_⟩
          exact ⟨fun h => by simpa [sput] using h0 (by simpa [did] using h), fun h => by simpa [sput] using h1 (by simpa [did] using h), fun h => by simpa [sput] using h2 (by simpa [did] using h), fun h => by simpa [sput] using h3 (by simpa [did] using h), fun h => by simpa [sput] using h4 (by simpa [did] using h), fun h => by simpa [sput] using h5 (by simpa [did] using h), fun h => by simpa [sput] using h6 (by simpa [did] using h), fun _ => by simp [sput], fun h => by simpa [sput] using h8 (by simpa [did] using h), hT⟩
        · have g3 := h3 (by simp [hdep])
          have g7 := h7 (by simp [hdep])
          simp [go_sem, evS, f1, f4, f5, g3, g7, hgt2]
          exact ⟨fun h => by simpa [sput] using h0 (by simpa [did] using h), fun h => by simpa [sput] using h1 (by simpa [did] using h), fun h => by simpa [sput] using h2 (by simpa [did] using h), fun h => by simpa [sput] using h3 (by simpa [did] using h), fun h => by simpa [sput] using h4 (by simpa [did] using h), fun h => by simpa [sput] using h5 (by simpa [did] using h), fun h => by simpa [sput] using h6 (by simpa [did] using h), fun h => by simpa [sput] using h7 (by simpa [did] using h), fun _ => by simp [sput], hT⟩
      intro d s W hJ hd
      obtain ⟨h0, h1, h2, h3, h4, h5, h6, h7, h8, hT⟩ := hJ
      have hs25 := h8 (hd 8 (by decide))
      have HBr := Lib.hid (below_nx HBl.out hT)
      have Har := Lib.hid (Ha.out.below hT Ha.out.lt)
      clear h0 h1 h2 h3 h4 h5 h6 h7 h8 hT hd
      simp [setAll, hs25]
      clear hs25
      cases gt
      · go_wp2_with fail
        go_roundw
        case rel => exact ⟨q + 1, t, by omega, rfl, by go_num, by rw [HSt.out]; rfl, HBr.out, Har.out⟩
        case measure => simp [intOf]; omega
      · go_wp2_with fail
        go_roundw
        case rel => exact ⟨q + 1, q, by omega, rfl, by go_num, by rw [HSt.out]; rfl, HBr.out, Har.out⟩
        case measure => simp [intOf]; omega
    · obtain rfl : q = K := by omega
      have hqc : ¬ (q : Int) < (q : Int) := by omega
      go_wp2_with fail
      go_ret2
      exact ⟨by have e := HM.out; rw [if_neg h0, ← HT.out] at e; rw [e]; first | rfl | simp, HBl.out⟩
end Go.Proofs.Ytjjneiidggcfdaa
set_option linter.unusedVariables false
set_option linter.unusedSimpArgs false
set_option linter.unnecessarySimpa false
namespace Go.Proofs.Ytjjneiidggcfdaa
open Go.RowKit
attribute [local go_sem ↓] Go.wp_at_zero Go.wp_at_succ

theorem getD_wds {l : List Nat} (h : Wds l) (k : Nat) : l.getD k 0 < 18446744073709551616 := by
  rcases Nat.lt_or_ge k l.length with h1 | h1
  · rw [getD_of_lt h1]; exact h.at_ k h1
  · rw [getD_of_le h1]; omega
theorem Row.get0 {w : World} {A : Option Addr} {l : List Nat} {k : Nat} (h : Row w A (f64s l)) (hk : k < l.length) : ∃ b o, A = some ⟨b, o, none⟩ ∧ w.cell? ⟨b, o + k, none⟩ = some (.float .f64 (l.getD k 0)) := by
  obtain ⟨b, o, e, _, hc⟩ := h.at_ (f64s_get l k hk)
  exact ⟨b, o, e, by rw [getD_of_lt hk]; exact hc⟩

end Go.Proofs.Ytjjneiidggcfdaa
set_option linter.unusedVariables false
set_option linter.unusedSimpArgs false
set_option linter.unnecessarySimpa false
namespace Go.Proofs.Ytjjneiidggcfdaa
open Go.RowKit
attribute [local go_sem ↓] Go.wp_at_zero Go.wp_at_succ

theorem dotA_le (K : Nat) (hK : K = 2098) (l m : List Nat) : ∀ n, (∀ k, k < n → Fl.rung (l.getD k 0) < Fl.INF) → (∀ k, k < n → Fl.rung (m.getD k 0) < Fl.INF) → dotA l m n ≤ n * (2 ^ K * 2 ^ K)
  | 0, _, _ => by simp [dotA]
  | n + 1, h, h' => by
    have ih := dotA_le K hK l m n (fun k hk => h k (by omega)) (fun k hk => h' k (by omega))
    have h1 := val_lt_big K hK (h n (by omega))
    have h2 := val_lt_big K hK (h' n (by omega))
    have h3 : (Fl.val (l.getD n 0) * Fl.val (m.getD n 0)).natAbs ≤ 2 ^ K * 2 ^ K := by
      rw [Int.natAbs_mul]; exact Nat.mul_le_mul (Nat.le_of_lt h1) (Nat.le_of_lt h2)
    show dotA l m n + (Fl.val (l.getD n 0) * Fl.val (m.getD n 0)).natAbs ≤ _
    rw [Nat.add_mul, Nat.one_mul]
    omega
theorem dot_fit {l m : List Nat} {n : Nat} (h : ∀ k, k < n → Fl.rung (l.getD k 0) < Fl.INF) (h' : ∀ k, k < n → Fl.rung (m.getD k 0) < Fl.INF) (hn : n ≤ 65536) : Fitd (dy (dotE l m n) (-2148)) := by
  obtain ⟨K, hK⟩ : ∃ K, K = 2098 := ⟨_, rfl⟩
  have h1 := dotA_le K hK l m n h h'
  have h2 := dotE_le l m n
  have h3 : n * (2 ^ K * 2 ^ K) ≤ 65536 * (2 ^ K * 2 ^ K) := Nat.mul_le_mul_right _ hn
  have h4 : 65536 * (2 ^ K * 2 ^ K) < 2 ^ (17 + (K + K)) := by
    rw [Nat.pow_add, Nat.pow_add]
    have : 0 < 2 ^ K * 2 ^ K := Nat.mul_pos (Nat.two_pow_pos K) (Nat.two_pow_pos K)
    generalize 2 ^ K * 2 ^ K = P at *
    omega
  exact fitd_of (j := 17 + (K + K)) (by omega) (by omega) (by omega)
theorem fdy_mul (x y : Nat) : fdy x * fdy y = dy (Fl.val x * Fl.val y) (-2148) := by unfold fdy; rw [dy_mul]; rfl
theorem prod_fit {x y : Nat} (h : Fl.rung x < Fl.INF) (h' : Fl.rung y < Fl.INF) : Fitd (fdy x * fdy y) := by
  obtain ⟨K, hK⟩ : ∃ K, K = 2098 := ⟨_, rfl⟩
  have h1 := val_lt_big K hK h
  have h2 := val_lt_big K hK h'
  rw [fdy_mul]
  refine fitd_of (j := K + K) ?_ (by omega) (by omega)
  rw [Int.natAbs_mul, Nat.pow_add]
  exact Nat.mul_lt_mul'' h1 h2

set_option maxRecDepth 100000 in
set_option maxHeartbeats 4000000 in
theorem rdotd_v (A B : Option Addr) (n c d9 : Nat) (l m : List Nat) (w : World) (hA : Row w A (f64s l)) (hB : Row w B (f64s m)) (hW : Wds l) (hW' : Wds m) (hl : l.length = n) (hm : m.length = n) (hn : n ≤ 65536) (hf : ∀ k, k < n → Fl.rung (l.getD k 0) < Fl.INF) (hf' : ∀ k, k < n → Fl.rung (m.getD k 0) < Fl.INF) :
    Calls Try.prog 14 #[.slice A n c, .slice B n d9] w (RetV (dy (dotE l m n) (-2148)) w) := by
  have H0 := Lib.hid (And.intro hA (And.intro hB (And.intro hl hm)))
  have H1 := Lib.hid (And.intro hW (And.intro hW' (And.intro hf hf')))
  have HR0 := Lib.hid ((Blk.new w 34 #[.bool false, .slice none 0 0, .int .i64 0]).alloc (.cells #[.bool false, .slice none 0 0, .int .i64 0] 34))
  have HQ0 := Lib.hid (Blk.new_ (w.alloc (.cells #[.bool false, .slice none 0 0, .int .i64 0] 34)) 34 #[.bool false, .slice none 0 0, .int .i64 0] (w.heap.size + 1) (by simp))
  have HB0 := Lib.hid (((Below.refl w.heap.size w).alloc (Nat.le_refl _) (.cells #[.bool false, .slice none 0 0, .int .i64 0] 34)).alloc (by simp) (.cells #[.bool false, .slice none 0 0, .int .i64 0] 34))
  have HN := Lib.hid hn
  have f0 := HQ0.out.frozen 0
  have f1 := HQ0.out.frozen 1
  have f2 := HQ0.out.frozen 2
  clear hA hB hW hW' hl hm hn hf hf'
  go_enter Try.func14, Try.ntmps14
  go_wp2_with fail
  clear f0 f1 f2
  go_loopw [6] (fun i wr => ∃ q : Nat, q ≤ n ∧ i = .int .i64 (q : Int) ∧ Hid (Bx wr (w.heap.size + 1) (dy (dotE l m q) (-2148))) ∧ Hid (Blk wr (w.heap.size) 34 #[.bool false, .slice none 0 0, .int .i64 0] ∧ Below w.heap.size w wr)) (fun i _ => n - (intOf i).toNat)
  case atStart => exact ⟨0, Nat.zero_le _, rfl, Lib.hid ⟨false, none, 0, 0, 0, [], HQ0.out, ⟨rfl, Nat.le_refl _, Row.nil _ _, Digs.nil _, fun _ _ e => by cases e⟩, .inl ⟨rfl, rfl, rfl⟩, by rw [rdy_nil]; rfl⟩, Lib.hid ⟨HR0.out, HB0.out⟩⟩
  case round =>
    obtain ⟨q, hq, rfl, HBx, HBl⟩ := hrel
    clear HQ0 HR0 HB0
    obtain ⟨ngq, Aq, nq, cq, Eq, Lq, hBq, hRq, hNq, hDq⟩ := HBx.out
    have HQr := Lib.hid hBq
    have HRr := Lib.hid HBl.out.1
    have HBr := Lib.hid HBl.out.2
    by_cases hlt : q < n
    · have hlt1 : (q : Int) < (n : Int) := by omega
      obtain ⟨b1, y1, rfl, hcx⟩ := H0.out.1.get0 (k := q) (by rw [H0.out.2.2.1]; exact hlt)
      obtain ⟨b2, y2, rfl, hcy⟩ := H0.out.2.1.get0 (k := q) (by rw [H0.out.2.2.2]; exact hlt)
      have HCx := Lib.hid (cell_below hcx HBr.out)
      have HCy := Lib.hid (cell_below hcy HBr.out)
      have HFit := Lib.hid (dot_fit (l := l) (m := m) (n := q) (fun k hk => H1.out.2.2.1 k (by omega)) (fun k hk => H1.out.2.2.2 k (by omega)) (by have := HN.out; omega))
      obtain ⟨Dq, hDq'⟩ : ∃ Dq, dy (dotE l m q) (-2148) = Dq := ⟨_, rfl⟩
      have HVal := Lib.hid (show Dq + fdy (l.getD q 0) * fdy (m.getD q 0) = dy (dotE l m (q + 1)) (-2148) by rw [← hDq', fdy_mul, dy_add]; rfl)
      rw [hDq'] at hDq HFit
      have HF := Lib.hid (show l.getD q 0 < 18446744073709551616 ∧ Fl.rung (l.getD q 0) < Fl.INF ∧ m.getD q 0 < 18446744073709551616 ∧ Fl.rung (m.getD q 0) < Fl.INF ∧ Fitd (fdy (l.getD q 0)) ∧ Fitd (fdy (m.getD q 0)) ∧ Fitd Dq ∧ Fitd (fdy (l.getD q 0) * fdy (m.getD q 0)) from
        ⟨getD_wds H1.out.1 q, H1.out.2.2.1 q hlt, getD_wds H1.out.2.1 q, H1.out.2.2.2 q hlt, fitd_float (H1.out.2.2.1 q hlt), fitd_float (H1.out.2.2.2 q hlt), HFit.out, prod_fit (H1.out.2.2.1 q hlt) (H1.out.2.2.2 q hlt)⟩)
      have HDVq := Lib.hid (fun W (hb : Below wr.heap.size wr W) => (show DV wr (.agg #[.bool ngq, .slice Aq nq cq, .int .i64 Eq]) Dq from ⟨ngq, Aq, nq, cq, Eq, Lq, rfl, hRq, hNq, hDq⟩).below hb)
      generalize l.getD q 0 = x at *
      generalize m.getD q 0 = y at *
      have bq1 : q < n := hlt
      have bq2 := hlt1
      have HLT := Lib.hid (And.intro hlt hq)
      clear hcx hcy hBq hRq hNq hDq hDq' HFit HBx HBl hq
      go_wp2_with fail
      refine wp_region_inv [20, 21, 22, 23, 24, 25, 26, 27, 28, 29, 30, 31, 32] (fun d s W => (d 0 = true → s 20 = .agg #[.bool ngq, .slice Aq nq cq, .int .i64 Eq]) ∧ (d 1 = true → s 21 = .slice (some ⟨b1, y1, none⟩) n c) ∧ (d 2 = true → s 22 = .int .i64 (q : Int)) ∧ (d 3 = true → s 23 = .pointer (some ⟨b1, y1 + q, none⟩)) ∧ (d 4 = true → s 24 = .float .f64 x) ∧ (d 5 = true → DV W (s 25) (fdy x)) ∧ (d 6 = true → s 26 = .slice (some ⟨b2, y2, none⟩) n d9) ∧ (d 7 = true → s 27 = .int .i64 (q : Int)) ∧ (d 8 = true → s 28 = .pointer (some ⟨b2, y2 + q, none⟩)) ∧ (d 9 = true → s 29 = .float .f64 y) ∧ (d 10 = true → DV W (s 30) (fdy y)) ∧ (d 11 = true → DV W (s 31) (fdy x * fdy y)) ∧ (d 12 = true → DV W (s 32) (Dq + fdy x * fdy y)) ∧ (d 3 = true → d 1 = true ∧ d 2 = true) ∧ (d 4 = true → d 1 = true ∧ d 2 = true ∧ d 3 = true) ∧ (d 5 = true → d 1 = true ∧ d 2 = true ∧ d 3 = true ∧ d 4 = true) ∧ (d 8 = true → d 6 = true ∧ d 7 = true) ∧ (d 9 = true → d 6 = true ∧ d 7 = true ∧ d 8 = true) ∧ (d 10 = true → d 6 = true ∧ d 7 = true ∧ d 8 = true ∧ d 9 = true) ∧ (d 11 = true → d 1 = true ∧ d 2 = true ∧ d 3 = true ∧ d 4 = true ∧ d 5 = true ∧ d 6 = true ∧ d 7 = true ∧ d 8 = true ∧ d 9 = true ∧ d 10 = true) ∧ (d 12 = true → d 0 = true ∧ d 1 = true ∧ d 2 = true ∧ d 3 = true ∧ d 4 = true ∧ d 5 = true ∧ d 6 = true ∧ d 7 = true ∧ d 8 = true ∧ d 9 = true ∧ d 10 = true ∧ d 11 = true) ∧ (d 13 = true → d 0 = true ∧ d 1 = true ∧ d 2 = true ∧ d 3 = true ∧ d 4 = true ∧ d 5 = true ∧ d 6 = true ∧ d 7 = true ∧ d 8 = true ∧ d 9 = true ∧ d 10 = true ∧ d 11 = true ∧ d 12 = true) ∧ ((d 13 = false → Below wr.heap.size wr W) ∧ (d 13 = true → Bx W (w.heap.size + 1) (Dq + fdy x * fdy y) ∧ Below w.heap.size w W ∧ Blk W (w.heap.size) 34 #[.bool false, .slice none 0 0, .int .i64 0])))
        rfl (by kernel_rfl) ?_ ?_ ?_
      · exact ⟨by simp, by simp, by simp, by simp, by simp, by simp, by simp, by simp, by simp, by simp, by simp, by simp, by simp, by simp, by simp, by simp, by simp, by simp, by simp, by simp, by simp, by simp, ⟨fun _ => (Below.refl _ _).drew, fun h => by simp at h⟩⟩
      · refine ⟨?_, ?_, ?_, ?_, ?_, ?_, ?_, ?_, ?_, ?_, ?_, ?_, ?_, ?_, trivial⟩
        all_goals
          intro d s W hJ hfr hd hdep
          simp only [List.mem_cons, forall_eq_or_imp, List.not_mem_nil, false_implies, implies_true, and_true, Region.binds] at hdep
          have f0 := hfr 0 (by decide)
          have f1 := hfr 1 (by decide)
          have f5 := hfr 5 (by decide)
          have f6 := hfr 6 (by decide)
          simp at f0 f1 f5 f6 hdep
          obtain ⟨h0, h1, h2, h3, h4, h5, h6, h7, h8, h9, h10, h11, h12, x0, x1, x2, x3, x4, x5, x6, x7, x8, hT⟩ := hJ
        · have hl : d 13 = false := by
            cases h : d 13
            · rfl
            · have := x8 h; simp [hd] at this
          replace hT := hT.1 hl
          unfold OpSteps
          obtain ⟨p0, p1, p2⟩ := cells3 (HQr.out.below hT HQr.out.lt)
          simp [go_sem, evS, f5, p0, p1, p2]
          exact ⟨fun _ => by simp [sput], fun h => by simpa [sput] using h1 (by simpa [did] using h), fun h => by simpa [sput] using h2 (by simpa [did] using h), fun h => by simpa [sput] using h3 (by simpa [did] using h), fun h => by simpa [sput] using h4 (by simpa [did] using h), fun h => by simpa [sput] using h5 (by simpa [did] using h), fun h => by simpa [sput] using h6 (by simpa [did] using h), fun h => by simpa [sput] using h7 (by simpa [did] using h), fun h => by simpa [sput] using h8 (by simpa [did] using h), fun h => by simpa [sput] using h9 (by simpa [did] using h), fun h => by simpa [sput] using h10 (by simpa [did] using h), fun h => by simpa [sput] using h11 (by simpa [did] using h), fun h => by simpa [sput] using h12 (by simpa [did] using h), fun h => by have := x0 (by simpa [did] using h); simp [did, this], fun h => by have := x1 (by simpa [did] using h); simp [did, this], fun h => by have := x2 (by simpa [did] using h); simp [did, this], fun h => by have := x3 (by simpa [did] using h); simp [did, this], fun h => by have := x4 (by simpa [did] using h); simp [did, this], fun h => by have := x5 (by simpa [did] using h); simp [did, this], fun h => by have := x6 (by simpa [did] using h); simp [did, this], fun h => by have := x7 (by simpa [did] using h); simp [did, this], fun h => by have := x8 (by simpa [did] using h); simp [did, this], ⟨fun _ => hT, fun h => by simp [did, hl] at h⟩⟩
        · have hl : d 13 = false := by
            cases h : d 13
            · rfl
            · have := x8 h; simp [hd] at this
          replace hT := hT.1 hl
          unfold OpSteps
          simp [go_sem, evS, f0]
          exact ⟨fun h => by simpa [sput] using h0 (by simpa [did] using h), fun _ => by simp [sput], fun h => by simpa [sput] using h2 (by simpa [did] using h), fun h => by simpa [sput] using h3 (by simpa [did] using h), fun h => by simpa [sput] using h4 (by simpa [did] using h), fun h => by simpa [sput] using h5 (by simpa [did] using h), fun h => by simpa [sput] using h6 (by simpa [did] using h), fun h => by simpa [sput] using h7 (by simpa [did] using h), fun h => by simpa [sput] using h8 (by simpa [did] using h), fun h => by simpa [sput] using h9 (by simpa [did] using h), fun h => by simpa [sput] using h10 (by simpa [did] using h), fun h => by simpa [sput] using h11 (by simpa [did] using h), fun h => by simpa [sput] using h12 (by simpa [did] using h), fun h => by have := x0 (by simpa [did] using h); simp [did, this], fun h => by have := x1 (by simpa [did] using h); simp [did, this], fun h => by have := x2 (by simpa [did] using h); simp [did, this], fun h => by have := x3 (by simpa [did] using h); simp [did, this], fun h => by have := x4 (by simpa [did] using h); simp [did, this], fun h => by have := x5 (by simpa [did] using h); simp [did, this], fun h => by have := x6 (by simpa [did] using h); simp [did, this], fun h => by have := x7 (by simpa [did] using h); simp [did, this], fun h => by have := x8 (by simpa [did] using h); simp [did, this], ⟨fun _ => hT, fun h => by simp [did, hl] at h⟩⟩
        · have hl : d 13 = false := by
            cases h : d 13
            · rfl
            · have := x8 h; simp [hd] at this
          replace hT := hT.1 hl
          unfold OpSteps
          simp [go_sem, evS, f6]
          exact ⟨fun h => by simpa [sput] using h0 (by simpa [did] using h), fun h => by simpa [sput] using h1 (by simpa [did] using h), fun _ => by simp [sput], fun h => by simpa [sput] using h3 (by simpa [did] using h), fun h => by simpa [sput] using h4 (by simpa [did] using h), fun h => by simpa [sput] using h5 (by simpa [did] using h), fun h => by simpa [sput] using h6 (by simpa [did] using h), fun h => by simpa [sput] using h7 (by simpa [did] using h), fun h => by simpa [sput] using h8 (by simpa [did] using h), fun h => by simpa [sput] using h9 (by simpa [did] using h), fun h => by simpa [sput] using h10 (by simpa [did] using h), fun h => by simpa [sput] using h11 (by simpa [did] using h), fun h => by simpa [sput] using h12 (by simpa [did] using h), fun h => by have := x0 (by simpa [did] using h); simp [did, this], fun h => by have := x1 (by simpa [did] using h); simp [did, this], fun h => by have := x2 (by simpa [did] using h); simp [did, this], fun h => by have := x3 (by simpa [did] using h); simp [did, this], fun h => by have := x4 (by simpa [did] using h); simp [did, this], fun h => by have := x5 (by simpa [did] using h); simp [did, this], fun h => by have := x6 (by simpa [did] using h); simp [did, this], fun h => by have := x7 (by simpa [did] using h); simp [did, this], fun h => by have := x8 (by simpa [did] using h); simp [did, this], ⟨fun _ => hT, fun h => by simp [did, hl] at h⟩⟩
        · have hl : d 13 = false := by
            cases h : d 13
            · rfl
            · have := x8 h; simp [hd] at this
          replace hT := hT.1 hl
          have fz1 := h1 (by simp [hdep])
          have fz2 := h2 (by simp [hdep])
          unfold OpSteps
          simp [go_sem, evS, fz1, fz2, bq1, bq2]
          exact ⟨fun h => by simpa [sput] using h0 (by simpa [did] using h), fun h => by simpa [sput] using h1 (by simpa [did] using h), fun h => by simpa [sput] using h2 (by simpa [did] using h), fun _ => by simp [sput], fun h => by simpa [sput] using h4 (by simpa [did] using h), fun h => by simpa [sput] using h5 (by simpa [did] using h), fun h => by simpa [sput] using h6 (by simpa [did] using h), fun h => by simpa [sput] using h7 (by simpa [did] using h), fun h => by simpa [sput] using h8 (by simpa [did] using h), fun h => by simpa [sput] using h9 (by simpa [did] using h), fun h => by simpa [sput] using h10 (by simpa [did] using h), fun h => by simpa [sput] using h11 (by simpa [did] using h), fun h => by simpa [sput] using h12 (by simpa [did] using h), fun _ => by simp [did, hdep], fun h => by have := x1 (by simpa [did] using h); simp [did, this], fun h => by have := x2 (by simpa [did] using h); simp [did, this], fun h => by have := x3 (by simpa [did] using h); simp [did, this], fun h => by have := x4 (by simpa [did] using h); simp [did, this], fun h => by have := x5 (by simpa [did] using h); simp [did, this], fun h => by have := x6 (by simpa [did] using h); simp [did, this], fun h => by have := x7 (by simpa [did] using h); simp [did, this], fun h => by have := x8 (by simpa [did] using h); simp [did, this], ⟨fun _ => hT, fun h => by simp [did, hl] at h⟩⟩
        · have hl : d 13 = false := by
            cases h : d 13
            · rfl
            · have := x8 h; simp [hd] at this
          replace hT := hT.1 hl
          have fz3 := h3 (by simp [hdep])
          unfold OpSteps
          have pc := cell_below HCx.out hT
          simp [go_sem, evS, fz3, pc]
          exact ⟨fun h => by simpa [sput] using h0 (by simpa [did] using h), fun h => by simpa [sput] using h1 (by simpa [did] using h), fun h => by simpa [sput] using h2 (by simpa [did] using h), fun h => by simpa [sput] using h3 (by simpa [did] using h), fun _ => by simp [sput], fun h => by simpa [sput] using h5 (by simpa [did] using h), fun h => by simpa [sput] using h6 (by simpa [did] using h), fun h => by simpa [sput] using h7 (by simpa [did] using h), fun h => by simpa [sput] using h8 (by simpa [did] using h), fun h => by simpa [sput] using h9 (by simpa [did] using h), fun h => by simpa [sput] using h10 (by simpa [did] using h), fun h => by simpa [sput] using h11 (by simpa [did] using h), fun h => by simpa [sput] using h12 (by simpa [did] using h), fun h => by have := x0 (by simpa [did] using h); simp [did, this], fun _ => by have y3 := x0 (by simp [hdep]); simp [did, hdep, y3], fun h => by have := x2 (by simpa [did] using h); simp [did, this], fun h => by have := x3 (by simpa [did] using h); simp [did, this], fun h => by have := x4 (by simpa [did] using h); simp [did, this], fun h => by have := x5 (by simpa [did] using h); simp [did, this], fun h => by have := x6 (by simpa [did] using h); simp [did, this], fun h => by have := x7 (by simpa [did] using h); simp [did, this], fun h => by have := x8 (by simpa [did] using h); simp [did, this], ⟨fun _ => hT, fun h => by simp [did, hl] at h⟩⟩
        · have hl : d 13 = false := by
            cases h : d 13
            · rfl
            · have := x8 h; simp [hd] at this
          replace hT := hT.1 hl
          have fz4 := h4 (by simp [hdep])
          unfold OpSteps
          simp [go_sem, evS, fz4]
          refine (rof_v x W HF.out.1 HF.out.2.1).mono ?_
          rintro e W' ⟨v9, rfl, hv, hb⟩
          refine ⟨_, rfl, ?_⟩
          exact ⟨fun h => by simpa [sput] using h0 (by simpa [did] using h), fun h => by simpa [sput] using h1 (by simpa [did] using h), fun h => by simpa [sput] using h2 (by simpa [did] using h), fun h => by simpa [sput] using h3 (by simpa [did] using h), fun h => by simpa [sput] using h4 (by simpa [did] using h), fun _ => by simpa [sput] using hv, fun h => by simpa [sput] using h6 (by simpa [did] using h), fun h => by simpa [sput] using h7 (by simpa [did] using h), fun h => by simpa [sput] using h8 (by simpa [did] using h), fun h => by simpa [sput] using h9 (by simpa [did] using h), fun h => by simpa [sput] using (h10 (by simpa [did] using h)).below hb, fun h => by simpa [sput] using (h11 (by simpa [did] using h)).below hb, fun h => by simpa [sput] using (h12 (by simpa [did] using h)).below hb, fun h => by have := x0 (by simpa [did] using h); simp [did, this], fun h => by have := x1 (by simpa [did] using h); simp [did, this], fun _ => by have y4 := x1 (by simp [hdep]); simp [did, hdep, y4], fun h => by have := x3 (by simpa [did] using h); simp [did, this], fun h => by have := x4 (by simpa [did] using h); simp [did, this], fun h => by have := x5 (by simpa [did] using h); simp [did, this], fun h => by have := x6 (by simpa [did] using h); simp [did, this], fun h => by have := x7 (by simpa [did] using h); simp [did, this], fun h => by have := x8 (by simpa [did] using h); simp [did, this], ⟨fun _ => below_nx hT hb, fun h => by simp [did, hl] at h⟩⟩
        · have hl : d 13 = false := by
            cases h : d 13
            · rfl
            · have := x8 h; simp [hd] at this
          replace hT := hT.1 hl
          unfold OpSteps
          simp [go_sem, evS, f1]
          exact ⟨fun h => by simpa [sput] using h0 (by simpa [did] using h), fun h => by simpa [sput] using h1 (by simpa [did] using h), fun h => by simpa [sput] using h2 (by simpa [did] using h), fun h => by simpa [sput] using h3 (by simpa [did] using h), fun h => by simpa [sput] using h4 (by simpa [did] using h), fun h => by simpa [sput] using h5 (by simpa [did] using h), fun _ => by simp [sput], fun h => by simpa [sput] using h7 (by simpa [did] using h), fun h => by simpa [sput] using h8 (by simpa [did] using h), fun h => by simpa [sput] using h9 (by simpa [did] using h), fun h => by simpa [sput] using h10 (by simpa [did] using h), fun h => by simpa [sput] using h11 (by simpa [did] using h), fun h => by simpa [sput] using h12 (by simpa [did] using h), fun h => by have := x0 (by simpa [did] using h); simp [did, this], fun h => by have := x1 (by simpa [did] using h); simp [did, this], fun h => by have := x2 (by simpa [did] using h); simp [did, this], fun h => by have := x3 (by simpa [did] using h); simp [did, this], fun h => by have := x4 (by simpa [did] using h); simp [did, this], fun h => by have := x5 (by simpa [did] using h); simp [did, this], fun h => by have := x6 (by simpa [did] using h); simp [did, this], fun h => by have := x7 (by simpa [did] using h); simp [did, this], fun h => by have := x8 (by simpa [did] using h); simp [did, this], ⟨fun _ => hT, fun h => by simp [did, hl] at h⟩⟩
        · have hl : d 13 = false := by
            cases h : d 13
            · rfl
            · have := x8 h; simp [hd] at this
          replace hT := hT.1 hl
          unfold OpSteps
          simp [go_sem, evS, f6]
          exact ⟨fun h => by simpa [sput] using h0 (by simpa [did] using h), fun h => by simpa [sput] using h1 (by simpa [did] using h), fun h => by simpa [sput] using h2 (by simpa [did] using h), fun h => by simpa [sput] using h3 (by simpa [did] using h), fun h => by simpa [sput] using h4 (by simpa [did] using h), fun h => by simpa [sput] using h5 (by simpa [did] using h), fun h => by simpa [sput] using h6 (by simpa [did] using h), fun _ => by simp [sput], fun h => by simpa [sput] using h8 (by simpa [did] using h), fun h => by simpa [sput] using h9 (by simpa [did] using h), fun h => by simpa [sput] using h10 (by simpa [did] using h), fun h => by simpa [sput] using h11 (by simpa [did] using h), fun h => by simpa [sput] using h12 (by simpa [did] using h), fun h => by have := x0 (by simpa [did] using h); simp [did, this], fun h => by have := x1 (by simpa [did] using h); simp [did, this], fun h => by have := x2 (by simpa [did] using h); simp [did, this], fun h => by have := x3 (by simpa [did] using h); simp [did, this], fun h => by have := x4 (by simpa [did] using h); simp [did, this], fun h => by have := x5 (by simpa [did] using h); simp [did, this], fun h => by have := x6 (by simpa [did] using h); simp [did, this], fun h => by have := x7 (by simpa [did] using h); simp [did, this], fun h => by have := x8 (by simpa [did] using h); simp [did, this], ⟨fun _ => hT, fun h => by simp [did, hl] at h⟩⟩
        · have hl : d 13 = false := by
            cases h : d 13
            · rfl
            · have := x8 h; simp [hd] at this
          replace hT := hT.1 hl
          have fz6 := h6 (by simp [hdep])
          have fz7 := h7 (by simp [hdep])
          unfold OpSteps
          simp [go_sem, evS, fz6, fz7, bq1, bq2]
          exact ⟨fun h => by simpa [sput] using h0 (by simpa [did] using h), fun h => by simpa [sput] using h1 (by simpa [did] using h), fun h => by simpa [sput] using h2 (by simpa [did] using h), fun h => by simpa [sput] using h3 (by simpa [did] using h), fun h => by simpa [sput] using h4 (by simpa [did] using h), fun h => by simpa [sput] using h5 (by simpa [did] using h), fun h => by simpa [sput] using h6 (by simpa [did] using h), fun h => by simpa [sput] using h7 (by simpa [did] using h), fun _ => by simp [sput], fun h => by simpa [sput] using h9 (by simpa [did] using h), fun h => by simpa [sput] using h10 (by simpa [did] using h), fun h => by simpa [sput] using h11 (by simpa [did] using h), fun h => by simpa [sput] using h12 (by simpa [did] using h), fun h => by have := x0 (by simpa [did] using h); simp [did, this], fun h => by have := x1 (by simpa [did] using h); simp [did, this], fun h => by have := x2 (by simpa [did] using h); simp [did, this], fun _ => by simp [did, hdep], fun h => by have := x4 (by simpa [did] using h); simp [did, this], fun h => by have := x5 (by simpa [did] using h); simp [did, this], fun h => by have := x6 (by simpa [did] using h); simp [did, this], fun h => by have := x7 (by simpa [did] using h); simp [did, this], fun h => by have := x8 (by simpa [did] using h); simp [did, this], ⟨fun _ => hT, fun h => by simp [did, hl] at h⟩⟩
        · have hl : d 13 = false := by
            cases h : d 13
            · rfl
            · have := x8 h; simp [hd] at this
          replace hT := hT.1 hl
          have fz8 := h8 (by simp [hdep])
          unfold OpSteps
          have pc := cell_below HCy.out hT
          simp [go_sem, evS, fz8, pc]
          exact ⟨fun h => by simpa [sput] using h0 (by simpa [did] using h), fun h => by simpa [sput] using h1 (by simpa [did] using h), fun h => by simpa [sput] using h2 (by simpa [did] using h), fun h => by simpa [sput] using h3 (by simpa [did] using h), fun h => by simpa [sput] using h4 (by simpa [did] using h), fun h => by simpa [sput] using h5 (by simpa [did] using h), fun h => by simpa [sput] using h6 (by simpa [did] using h), fun h => by simpa [sput] using h7 (by simpa [did] using h), fun h => by simpa [sput] using h8 (by simpa [did] using h), fun _ => by simp [sput], fun h => by simpa [sput] using h10 (by simpa [did] using h), fun h => by simpa [sput] using h11 (by simpa [did] using h), fun h => by simpa [sput] using h12 (by simpa [did] using h), fun h => by have := x0 (by simpa [did] using h); simp [did, this], fun h => by have := x1 (by simpa [did] using h); simp [did, this], fun h => by have := x2 (by simpa [did] using h); simp [did, this], fun h => by have := x3 (by simpa [did] using h); simp [did, this], fun _ => by have y8 := x3 (by simp [hdep]); simp [did, hdep, y8], fun h => by have := x5 (by simpa [did] using h); simp [did, this], fun h => by have := x6 (by simpa [did] using h); simp [did, this], fun h => by have := x7 (by simpa [did] using h); simp [did, this], fun h => by have := x8 (by simpa [did] using h); simp [did, this], ⟨fun _ => hT, fun h => by simp [did, hl] at h⟩⟩
        · have hl : d 13 = false := by
            cases h : d 13
            · rfl
            · have := x8 h; simp [hd] at this
          replace hT := hT.1 hl
          have fz9 := h9 (by simp [hdep])
          unfold OpSteps
          simp [go_sem, evS, fz9]
          refine (rof_v y W HF.out.2.2.1 HF.out.2.2.2.1).mono ?_
          rintro e W' ⟨v9, rfl, hv, hb⟩
          refine ⟨_, rfl, ?_⟩
          exact ⟨fun h => by simpa [sput] using h0 (by simpa [did] using h), fun h => by simpa [sput] using h1 (by simpa [did] using h), fun h => by simpa [sput] using h2 (by simpa [did] using h), fun h => by simpa [sput] using h3 (by simpa [did] using h), fun h => by simpa [sput] using h4 (by simpa [did] using h), fun h => by simpa [sput] using (h5 (by simpa [did] using h)).below hb, fun h => by simpa [sput] using h6 (by simpa [did] using h), fun h => by simpa [sput] using h7 (by simpa [did] using h), fun h => by simpa [sput] using h8 (by simpa [did] using h), fun h => by simpa [sput] using h9 (by simpa [did] using h), fun _ => by simpa [sput] using hv, fun h => by simpa [sput] using (h11 (by simpa [did] using h)).below hb, fun h => by simpa [sput] using (h12 (by simpa [did] using h)).below hb, fun h => by have := x0 (by simpa [did] using h); simp [did, this], fun h => by have := x1 (by simpa [did] using h); simp [did, this], fun h => by have := x2 (by simpa [did] using h); simp [did, this], fun h => by have := x3 (by simpa [did] using h); simp [did, this], fun h => by have := x4 (by simpa [did] using h); simp [did, this], fun _ => by have y9 := x4 (by simp [hdep]); simp [did, hdep, y9], fun h => by have := x6 (by simpa [did] using h); simp [did, this], fun h => by have := x7 (by simpa [did] using h); simp [did, this], fun h => by have := x8 (by simpa [did] using h); simp [did, this], ⟨fun _ => below_nx hT hb, fun h => by simp [did, hl] at h⟩⟩
        · have hl : d 13 = false := by
            cases h : d 13
            · rfl
            · have := x8 h; simp [hd] at this
          replace hT := hT.1 hl
          have fz5 := h5 (by simp [hdep])
          have fz10 := h10 (by simp [hdep])
          unfold OpSteps
          simp [go_sem, evS, fz5, fz10]
          refine (rmul_v fz5 fz10 HF.out.2.2.2.2.1 HF.out.2.2.2.2.2.1).mono ?_
          rintro e W' ⟨v9, rfl, hv, hb⟩
          refine ⟨_, rfl, ?_⟩
          exact ⟨fun h => by simpa [sput] using h0 (by simpa [did] using h), fun h => by simpa [sput] using h1 (by simpa [did] using h), fun h => by simpa [sput] using h2 (by simpa [did] using h), fun h => by simpa [sput] using h3 (by simpa [did] using h), fun h => by simpa [sput] using h4 (by simpa [did] using h), fun h => by simpa [sput] using (h5 (by simpa [did] using h)).below hb, fun h => by simpa [sput] using h6 (by simpa [did] using h), fun h => by simpa [sput] using h7 (by simpa [did] using h), fun h => by simpa [sput] using h8 (by simpa [did] using h), fun h => by simpa [sput] using h9 (by simpa [did] using h), fun h => by simpa [sput] using (h10 (by simpa [did] using h)).below hb, fun _ => by simpa [sput] using hv, fun h => by simpa [sput] using (h12 (by simpa [did] using h)).below hb, fun h => by have := x0 (by simpa [did] using h); simp [did, this], fun h => by have := x1 (by simpa [did] using h); simp [did, this], fun h => by have := x2 (by simpa [did] using h); simp [did, this], fun h => by have := x3 (by simpa [did] using h); simp [did, this], fun h => by have := x4 (by simpa [did] using h); simp [did, this], fun h => by have := x5 (by simpa [did] using h); simp [did, this], fun _ => by have y5 := x2 (by simp [hdep]); have y10 := x5 (by simp [hdep]); simp [did, hdep, y5, y10], fun h => by have := x7 (by simpa [did] using h); simp [did, this], fun h => by have := x8 (by simpa [did] using h); simp [did, this], ⟨fun _ => below_nx hT hb, fun h => by simp [did, hl] at h⟩⟩
        · have hl : d 13 = false := by
            cases h : d 13
            · rfl
            · have := x8 h; simp [hd] at this
          replace hT := hT.1 hl
          have fz0 := h0 (by simp [hdep])
          have fz11 := h11 (by simp [hdep])
          unfold OpSteps
          simp [go_sem, evS, fz0, fz11]
          refine (radd_v (HDVq.out W hT) fz11 HF.out.2.2.2.2.2.2.1 HF.out.2.2.2.2.2.2.2).mono ?_
          rintro e W' ⟨v9, rfl, hv, hb⟩
          refine ⟨_, rfl, ?_⟩
          exact ⟨fun h => by simpa [sput] using h0 (by simpa [did] using h), fun h => by simpa [sput] using h1 (by simpa [did] using h), fun h => by simpa [sput] using h2 (by simpa [did] using h), fun h => by simpa [sput] using h3 (by simpa [did] using h), fun h => by simpa [sput] using h4 (by simpa [did] using h), fun h => by simpa [sput] using (h5 (by simpa [did] using h)).below hb, fun h => by simpa [sput] using h6 (by simpa [did] using h), fun h => by simpa [sput] using h7 (by simpa [did] using h), fun h => by simpa [sput] using h8 (by simpa [did] using h), fun h => by simpa [sput] using h9 (by simpa [did] using h), fun h => by simpa [sput] using (h10 (by simpa [did] using h)).below hb, fun h => by simpa [sput] using (h11 (by simpa [did] using h)).below hb, fun _ => by simpa [sput] using hv, fun h => by have := x0 (by simpa [did] using h); simp [did, this], fun h => by have := x1 (by simpa [did] using h); simp [did, this], fun h => by have := x2 (by simpa [did] using h); simp [did, this], fun h => by have := x3 (by simpa [did] using h); simp [did, this], fun h => by have := x4 (by simpa [did] using h); simp [did, this], fun h => by have := x5 (by simpa [did] using h); simp [did, this], fun h => by have := x6 (by simpa [did] using h); simp [did, this], fun _ => by have y11 := x6 (by simp [hdep]); simp [did, hdep, y11], fun h => by have := x8 (by simpa [did] using h); simp [did, this], ⟨fun _ => below_nx hT hb, fun h => by simp [did, hl] at h⟩⟩
        · have fz12 := h12 (by simp [hdep])
          unfold OpSteps
          replace hT := hT.1 hd
          obtain ⟨ng, A9, n9, c9, E9, L9, gv, gR, gN, gd⟩ := fz12
          have hB9 := HQr.out.below hT HQr.out.lt
          have fr0 := hB9.frozen 0
          have fr1 := hB9.frozen 1
          have fr2 := hB9.frozen 2
          obtain ⟨k0, k1, k2⟩ := cells3 hB9
          simp [go_sem, evS, f5, gv, fr0, fr1, fr2, k0, k1, k2]
          exact ⟨fun h => by simpa [sput] using h0 (by simpa [did] using h), fun h => by simpa [sput] using h1 (by simpa [did] using h), fun h => by simpa [sput] using h2 (by simpa [did] using h), fun h => by simpa [sput] using h3 (by simpa [did] using h), fun h => by simpa [sput] using h4 (by simpa [did] using h), fun h => by simpa [sput] using ((((h5 (by simpa [did] using h)).far hB9 (by decide) 0 _).far (hB9.set_ 0 _) (by decide) 1 _).far ((hB9.set_ 0 _).set_ 1 _) (by decide) 2 _), fun h => by simpa [sput] using h6 (by simpa [did] using h), fun h => by simpa [sput] using h7 (by simpa [did] using h), fun h => by simpa [sput] using h8 (by simpa [did] using h), fun h => by simpa [sput] using h9 (by simpa [did] using h), fun h => by simpa [sput] using ((((h10 (by simpa [did] using h)).far hB9 (by decide) 0 _).far (hB9.set_ 0 _) (by decide) 1 _).far ((hB9.set_ 0 _).set_ 1 _) (by decide) 2 _), fun h => by simpa [sput] using ((((h11 (by simpa [did] using h)).far hB9 (by decide) 0 _).far (hB9.set_ 0 _) (by decide) 1 _).far ((hB9.set_ 0 _).set_ 1 _) (by decide) 2 _), fun h => by simpa [sput] using ((((h12 (by simpa [did] using h)).far hB9 (by decide) 0 _).far (hB9.set_ 0 _) (by decide) 1 _).far ((hB9.set_ 0 _).set_ 1 _) (by decide) 2 _), fun h => by have := x0 (by simpa [did] using h); simp [did, this], fun h => by have := x1 (by simpa [did] using h); simp [did, this], fun h => by have := x2 (by simpa [did] using h); simp [did, this], fun h => by have := x3 (by simpa [did] using h); simp [did, this], fun h => by have := x4 (by simpa [did] using h); simp [did, this], fun h => by have := x5 (by simpa [did] using h); simp [did, this], fun h => by have := x6 (by simpa [did] using h); simp [did, this], fun h => by have := x7 (by simpa [did] using h); simp [did, this], fun _ => by have y12 := x7 (by simp [hdep]); simp [did, hdep, y12], ⟨fun h => by simp [did] at h, fun _ => ⟨bx_store hB9 gR gN gd, ((((HBr.out.trans (hT.mono HBr.out.size)).setCell (p := ⟨w.heap.size + 1, 0, none⟩) (by simp <;> omega) _).setCell (p := ⟨w.heap.size + 1, 1, none⟩) (by simp <;> omega) _).setCell (p := ⟨w.heap.size + 1, 2, none⟩) (by simp <;> omega) _), ((((HRr.out.below hT HRr.out.lt).other (p := ⟨w.heap.size + 1, 0, none⟩) (by simp <;> omega) _).other (p := ⟨w.heap.size + 1, 1, none⟩) (by simp <;> omega) _).other (p := ⟨w.heap.size + 1, 2, none⟩) (by simp <;> omega) _)⟩⟩⟩
      intro d s W hJ hd
      obtain ⟨h0, h1, h2, h3, h4, h5, h6, h7, h8, h9, h10, h11, h12, x0, x1, x2, x3, x4, x5, x6, x7, x8, hT⟩ := hJ
      obtain ⟨hBx, hBl, hKp⟩ := hT.2 (hd 13 (by decide))
      have HBx2 := Lib.hid hBx
      have HBl2 := Lib.hid hBl
      have HKp2 := Lib.hid hKp
      clear h0 h1 h2 h3 h4 h5 h6 h7 h8 h9 h10 h11 h12 x0 x1 x2 x3 x4 x5 x6 x7 x8 hT hd hBx hBl hKp
      simp [setAll]
      generalize s 20 = s20
      generalize s 21 = s21
      generalize s 22 = s22
      generalize s 23 = s23
      generalize s 24 = s24
      generalize s 25 = s25
      generalize s 26 = s26
      generalize s 27 = s27
      generalize s 28 = s28
      generalize s 29 = s29
      generalize s 30 = s30
      generalize s 31 = s31
      generalize s 32 = s32
      go_wp2_with fail
      go_roundw
      case rel => exact ⟨q + 1, by have := HLT.out; omega, by have := HLT.out; have := HN.out; rw [wrap64_in (by omega)]; rfl, Lib.hid (by rw [← HVal.out]; exact HBx2.out), Lib.hid ⟨HKp2.out, HBl2.out⟩⟩
      case measure => have := HLT.out; have := HN.out; rw [wrap64_in (by omega)]; simp [intOf]; omega
    · obtain rfl : q = n := by omega
      have hlt1 : ¬ (q : Int) < (q : Int) := by omega
      obtain ⟨a0, a1, a2⟩ := cells3 HQr.out
      have fr0 := HRr.out.frozen 0
      have fr1 := HRr.out.frozen 1
      have fr2 := HRr.out.frozen 2
      obtain ⟨r0, r1, r2⟩ := cells3 HRr.out
      have HRd9 := Lib.hid hRq
      have HN9 := Lib.hid hNq
      have HD9 := Lib.hid hDq
      clear hBq hRq hNq hDq HBx
      go_wp2_with fail
      obtain ⟨q0, q1, q2⟩ := cells3 (Blk.store3 HRr.out (.bool ngq) (.slice Aq nq cq) (.int .i64 Eq))
      exact bodyPost_ret (v := .agg #[.bool ngq, .slice Aq nq cq, .int .i64 Eq]) (by simp [results, Try.results14, go_sem, q0, q1, q2]) rfl (retR_done HRr.out HRd9.out HN9.out HD9.out HBr.out (by omega)).retv

end Go.Proofs.Ytjjneiidggcfdaa
set_option linter.unusedVariables false
namespace Go.Proofs.Ytjjneiidggcfdaa
open Go.RowKit

/-- Below 2^k, and a multiple of 2^-k. -/
def Sz (k : Nat) (d : Dyadic) : Prop := ∃ m : Int, d = dy m (-(k : Int)) ∧ m.natAbs < 2 ^ (2 * k)
theorem Sz.fit {k : Nat} {d : Dyadic} (h : Sz k d) (hk : k ≤ 134217720) : Fitd d := by
  obtain ⟨m, rfl, hm⟩ := h
  exact fitd_of hm (by omega) (by omega)
theorem Sz.mono {j k : Nat} {d : Dyadic} (h : Sz j d) (hk : j ≤ k) : Sz k d := by
  obtain ⟨m, rfl, hm⟩ := h
  refine ⟨m * 2 ^ (k - j), by rw [dy_pow]; congr 1; omega, ?_⟩
  have e : ((2 : Int) ^ (k - j)).natAbs = 2 ^ (k - j) := by rw [Int.natAbs_pow]; rfl
  rw [Int.natAbs_mul, e]
  have h1 : m.natAbs * 2 ^ (k - j) < 2 ^ (2 * j) * 2 ^ (k - j) := Nat.mul_lt_mul_of_pos_right hm (Nat.two_pow_pos _)
  rw [← Nat.pow_add] at h1
  exact Nat.lt_of_lt_of_le h1 (Nat.pow_le_pow_right (by omega) (by omega))
theorem Sz.add_ {k : Nat} {a b : Dyadic} (h : Sz k a) (h' : Sz k b) : Sz (k + 1) (a + b) := by
  obtain ⟨m, rfl, hm⟩ := h
  obtain ⟨n, rfl, hn⟩ := h'
  refine ⟨(m + n) * 2 ^ 1, by rw [dy_add, dy_pow]; congr 1; omega, ?_⟩
  rw [show 2 * (k + 1) = 2 * k + 2 by omega, Nat.pow_add]
  generalize 2 ^ (2 * k) = P at *
  omega
theorem Sz.add {j k n : Nat} {a b : Dyadic} (h : Sz j a) (h' : Sz k b) (hj : j < n) (hk : k < n) : Sz n (a + b) := by
  obtain ⟨n', rfl⟩ : ∃ n', n = n' + 1 := ⟨n - 1, by omega⟩
  exact (h.mono (by omega)).add_ (h'.mono (by omega))
theorem Sz.neg {k : Nat} {a : Dyadic} (h : Sz k a) : Sz k (-a) := by
  obtain ⟨m, rfl, hm⟩ := h
  exact ⟨-m, by rw [dy_neg], by omega⟩
theorem Sz.sub {j k n : Nat} {a b : Dyadic} (h : Sz j a) (h' : Sz k b) (hj : j < n) (hk : k < n) : Sz n (a - b) := Sz.add h h'.neg hj hk
theorem Sz.abs {k : Nat} {a : Dyadic} (h : Sz k a) : Sz k (dabs a) := by
  obtain ⟨m, rfl, hm⟩ := h
  exact ⟨m.natAbs, by rw [dabs_dy], by omega⟩
theorem Sz.mul {j k n : Nat} {a b : Dyadic} (h : Sz j a) (h' : Sz k b) (hn : j + k ≤ n) : Sz n (a * b) := by
  refine Sz.mono (j := j + k) ?_ hn
  obtain ⟨m, rfl, hm⟩ := h
  obtain ⟨q, rfl, hq⟩ := h'
  refine ⟨m * q, by rw [dy_mul]; congr 1; omega, ?_⟩
  rw [Int.natAbs_mul, show 2 * (j + k) = 2 * j + 2 * k by omega, Nat.pow_add]
  exact Nat.mul_lt_mul'' hm hq
theorem Sz.int {z : Int} {k : Nat} (h : z.natAbs < 2 ^ k) : Sz k (dy z 0) := by
  refine ⟨z * 2 ^ k, by rw [dy_pow]; congr 1; omega, ?_⟩
  have e : ((2 : Int) ^ k).natAbs = 2 ^ k := by rw [Int.natAbs_pow]; rfl
  rw [Int.natAbs_mul, e, show 2 * k = k + k by omega, Nat.pow_add]
  exact Nat.mul_lt_mul_of_pos_right h (Nat.two_pow_pos _)
theorem Sz.pow (s : Int) : Sz (s.natAbs + 1) (dy 1 s) := by
  obtain ⟨t, ht⟩ : ∃ t : Nat, (t : Int) = s + ((s.natAbs + 1 : Nat) : Int) := ⟨(s + ((s.natAbs + 1 : Nat) : Int)).toNat, by omega⟩
  refine ⟨1 * 2 ^ t, by rw [dy_pow]; congr 1; omega, ?_⟩
  have e : ((2 : Int) ^ t).natAbs = 2 ^ t := by rw [Int.natAbs_pow]; rfl
  rw [Int.natAbs_mul, e, show (1 : Int).natAbs = 1 from rfl, Nat.one_mul]
  exact Nat.pow_lt_pow_right (by omega) (by omega)
theorem Sz.shift {j n : Nat} {a : Dyadic} (h : Sz j a) (s : Int) (hn : j + s.natAbs + 1 ≤ n) : Sz n (a * dy 1 s) := h.mul (Sz.pow s) (by omega)
theorem Sz.float {b : Nat} (h : Fl.rung b < Fl.INF) : Sz 1074 (fdy b) := by
  obtain ⟨K, hK⟩ : ∃ K, K = 2098 := ⟨_, rfl⟩
  obtain ⟨J, hJ⟩ : ∃ J, J = 1074 := ⟨_, rfl⟩
  rw [← hJ]
  refine ⟨Fl.val b, by unfold fdy; congr 1; omega, ?_⟩
  exact Nat.lt_of_lt_of_le (val_lt_big K hK h) (Nat.pow_le_pow_right (by omega) (by omega))
theorem Sz.zero (k : Nat) : Sz k 0 := ⟨0, by rw [dy_zero], Nat.two_pow_pos _⟩
/-- A box that a pointer points to, made behind lo. -/
def NewB (W : World) (v : Value) (lo : Nat) : Prop := ∃ (g : Nat) (x0 x1 x2 : Value), v = .pointer (some ⟨g, 0, none⟩) ∧ Blk W g 34 #[x0, x1, x2] ∧ lo ≤ g
theorem NewB.below {W W' : World} {v : Value} {lo : Nat} (h : NewB W v lo) (hb : Below W.heap.size W W') : NewB W' v lo := by
  obtain ⟨g, x0, x1, x2, h1, h2, h3⟩ := h
  exact ⟨g, x0, x1, x2, h1, h2.next hb, h3⟩
/-- A pointer to a box that holds the number. -/
def BxP (W : World) (v : Value) (lo : Nat) (d : Dyadic) : Prop := ∃ g : Nat, v = .pointer (some ⟨g, 0, none⟩) ∧ Bx W g d ∧ lo ≤ g
theorem BxP.below {W W' : World} {v : Value} {lo : Nat} {d : Dyadic} (h : BxP W v lo d) (hb : Below W.heap.size W W') : BxP W' v lo d := by
  obtain ⟨g, h1, h2, h3⟩ := h
  exact ⟨g, h1, h2.below hb, h3⟩
end Go.Proofs.Ytjjneiidggcfdaa
set_option linter.unusedVariables false
set_option linter.unusedSimpArgs false
set_option linter.unnecessarySimpa false
namespace Go.Proofs.Ytjjneiidggcfdaa
open Go.RowKit
attribute [local go_sem ↓] Go.wp_at_zero Go.wp_at_succ

/-- Two results that have lists of their own. -/
def Twin (Z : Nat) (l l' : List Nat) (f f' : Nat → Nat → Value) (d1 d3 : Bool) (va vb : Value) (W : World) : Prop :=
  d1 = true → ∃ g c, va = f g c ∧ Own W g l ∧ Z ≤ g ∧ (d3 = true → ∃ g' c', vb = f' g' c' ∧ Own W g' l' ∧ Z ≤ g' ∧ g ≠ g')
section
variable {Z : Nat} {l l' : List Nat} {f f' : Nat → Nat → Value} {d1 d3 : Bool} {va vb : Value} {W W' : World}
theorem Twin.nxt (h : Twin Z l l' f f' d1 d3 va vb W) (hb : Below W.heap.size W W') : Twin Z l l' f f' d1 d3 va vb W' := fun e => by
  obtain ⟨g, c, h1, h2, h3, h4⟩ := h e
  refine ⟨g, c, h1, h2.nxt hb, h3, fun e' => ?_⟩
  obtain ⟨g', c', k1, k2, k3, k4⟩ := h4 e'
  exact ⟨g', c', k1, k2.nxt hb, k3, k4⟩
theorem own_ne {g p : Nat} {t : TypeId} {cs : Array Value} (h : Own W g l) (hB : Blk W p t cs) (ht : t ≠ 25) : g ≠ p := by
  rintro rfl
  obtain ⟨cs', hB', _⟩ := h
  unfold Blk at hB hB'
  rw [hB] at hB'
  injection hB' with hB'
  injection hB' with _ e _
  exact ht e
theorem own_far {g p : Nat} (h : Own W g l) (hb : ∀ k, k ≠ p → W'.heap[k]? = W.heap[k]?) (hne : g ≠ p) : Own W' g l := by
  obtain ⟨cs', hB', h2⟩ := h
  exact ⟨cs', (hb g hne).trans hB', h2⟩
theorem Twin.far {p : Nat} {t : TypeId} {cs : Array Value} (h : Twin Z l l' f f' d1 d3 va vb W) (hB : Blk W p t cs) (ht : t ≠ 25) (hb : ∀ k, k ≠ p → W'.heap[k]? = W.heap[k]?) : Twin Z l l' f f' d1 d3 va vb W' := fun e => by
  obtain ⟨g, c, h1, h2, h3, h4⟩ := h e
  refine ⟨g, c, h1, own_far h2 hb (own_ne h2 hB ht), h3, fun e' => ?_⟩
  obtain ⟨g', c', k1, k2, k3, k4⟩ := h4 e'
  exact ⟨g', c', k1, own_far k2 hb (own_ne k2 hB ht), k3, k4⟩
theorem Twin.first {g c : Nat} (ho : Own W g l) (hZ : Z ≤ g) (h3 : d3 = false) : Twin Z l l' f f' true d3 (f g c) vb W := fun _ => ⟨g, c, rfl, ho, hZ, fun e => by rw [h3] at e; cases e⟩
end
end Go.Proofs.Ytjjneiidggcfdaa
set_option linter.unusedVariables false
set_option linter.unusedSimpArgs false
namespace Go.Proofs.Ytjjneiidggcfdaa
open Go.RowKit
attribute [local go_sem ↓] Go.wp_at_zero Go.wp_at_succ

/-- 1, 2, 3. -/
def ex1 : List Nat := [4607182418800017408, 4611686018427387904, 4613937818241073152]
/-- 4, 5, 6. -/
def ex2 : List Nat := [4616189618054758400, 4617315517961601024, 4618441417868443648]
theorem ex_most : mostI (lst ex1 0 1 3) = 2 := by decide +kernel
theorem ex_dot : dotF (lst ex1 0 1 3) (lst ex2 0 1 3) 3 = 4629700416936869888 := by decide +kernel
theorem ex_eq : (FloatKind.f64.format.order 4629700416936869888 4629700416936869888 == some .eq) = true := by decide +kernel
theorem ex1_wds : Wds ex1 := by intro b hb; simp [ex1] at hb; omega
theorem ex2_wds : Wds ex2 := by intro b hb; simp [ex2] at hb; omega
set_option maxRecDepth 100000 in
theorem awake5_any (w : World) : Calls Try.prog 8 #[] w fun e w' => e = .returned (.bool true) ∧ Below w.heap.size w w' := by
  have HMo := Lib.hid (fun (A : Option Addr) (W : World) (h : Row W A (f64s ex1)) => show Calls Try.prog 38 #[.agg #[.slice A 3 3, .int .i64 0, .int .i64 3, .int .i64 1]] W fun e w' => e = .returned (.tuple #[.int .i64 2, .int .i64 0]) ∧ Below W.heap.size W w' from by
    have := most_ok A 3 3 ex1 0 3 1 W h ex1_wds rfl (by omega) (by omega) (by omega) (by decide) (by unfold I64; omega) (by unfold I64; omega)
    rw [ex_most] at this; exact this)
  have HDt := Lib.hid (fun (A B : Option Addr) (W : World) (h : Row W A (f64s ex1)) (h' : Row W B (f64s ex2)) => show Calls Try.prog 10 #[.agg #[.slice A 3 3, .int .i64 0, .int .i64 3, .int .i64 1], .agg #[.slice B 3 3, .int .i64 0, .int .i64 3, .int .i64 1]] W fun e w' => e = .returned (.tuple #[.float .f64 4629700416936869888, .int .i64 0]) ∧ Below W.heap.size W w' from by
    refine (dot_ok A B 3 3 ex1 0 3 1 3 3 ex2 0 1 W h h' ex1_wds ex2_wds rfl rfl (by omega) (by omega) (by omega) (by omega) (by omega) (by decide) (by decide) (by unfold I64; omega) (by unfold I64; omega) (by unfold I64; omega) (by unfold I64; omega)).mono ?_
    rintro e w' ⟨r, rfl, hr, hb⟩
    rw [ex_dot] at hr
    exact ⟨by rw [hr.eq_of (by decide)], hb⟩)
  have heq := ex_eq
  have HR := Lib.hid (row_of_blk (Blk.new w 25 (f64s ex1).toArray))
  have HB0 := Lib.hid ((Below.refl w.heap.size w).alloc (Nat.le_refl _) (.cells (f64s ex1).toArray 25))
  unfold ex1 at HR HB0
  go_enter Try.func8, Try.ntmps8
  go_wp2_with fail
  refine (HMo.out _ _ HR.out).mono ?_
  rintro e w1 ⟨rfl, hb⟩
  have HB1 := Lib.hid (below_nx HB0.out hb)
  clear hb
  go_wp2_with fail
  have HR1 := Lib.hid (row_of_blk ((((Blk.new w1 25 (f64s ex1).toArray).alloc (.cells (f64s ex2).toArray 25)).alloc (.cells #[.slice (some ⟨w1.heap.size, 0, none⟩) 3 3, .int .i64 0, .int .i64 3, .int .i64 1] 30)).alloc (.cells #[.slice (some ⟨w1.heap.size + 1, 0, none⟩) 3 3, .int .i64 0, .int .i64 3, .int .i64 1] 30)))
  have HR2 := Lib.hid (row_of_blk (((Blk.new_ (w1.alloc (.cells (f64s ex1).toArray 25)) 25 (f64s ex2).toArray (w1.heap.size + 1) (by simp)).alloc (.cells #[.slice (some ⟨w1.heap.size, 0, none⟩) 3 3, .int .i64 0, .int .i64 3, .int .i64 1] 30)).alloc (.cells #[.slice (some ⟨w1.heap.size + 1, 0, none⟩) 3 3, .int .i64 0, .int .i64 3, .int .i64 1] 30)))
  have HB2 := Lib.hid (below_al (below_al (below_al (below_al HB1.out (o := (.cells (f64s ex1).toArray 25))) (o := (.cells (f64s ex2).toArray 25))) (o := (.cells #[.slice (some ⟨w1.heap.size, 0, none⟩) 3 3, .int .i64 0, .int .i64 3, .int .i64 1] 30))) (o := (.cells #[.slice (some ⟨w1.heap.size + 1, 0, none⟩) 3 3, .int .i64 0, .int .i64 3, .int .i64 1] 30)))
  refine (HDt.out _ _ _ HR1.out HR2.out).mono ?_
  rintro e w2 ⟨rfl, hb⟩
  have HB3 := Lib.hid (below_nx HB2.out hb)
  clear hb
  go_wp2_with fail
  go_ret
  exact ⟨rfl, HB3.out⟩
end Go.Proofs.Ytjjneiidggcfdaa
set_option linter.unusedVariables false
namespace Go.Proofs.Ytjjneiidggcfdaa
open Go.RowKit
attribute [local go_sem ↓] ib_andNot_sign ib_and_frac ib_and_15 ib_and_1 ib_and_sign ib_and_inf ib_or

theorem all_take (zs : List Nat) (k : Nat) (h : k < zs.length) : (zs.take (k + 1)).all Fl.fin = ((zs.take k).all Fl.fin && Fl.fin zs[k]) := by
  rw [List.take_succ_eq_append_getElem h, List.all_append]; simp

theorem all_of_take {zs : List Nat} {j : Nat} (h : (zs.take j).all Fl.fin = false) : zs.all Fl.fin = false := by
  rw [← List.take_append_drop j zs, List.all_append, h]; rfl

end Go.Proofs.Ytjjneiidggcfdaa
set_option linter.unusedVariables false
set_option linter.unusedSimpArgs false
namespace Go.Proofs.Ytjjneiidggcfdaa
open Go.RowKit
attribute [local go_sem ↓] Go.wp_at_zero Go.wp_at_succ

theorem kind_fin2 (z : Nat) : (kindOf z != 0) = !Fl.fin z := by
  unfold kindOf Fl.fin
  rw [Bool.eq_iff_iff]
  simp only [bne_iff_ne, ne_eq, Bool.not_eq_true', decide_eq_false_iff_not]
  split
  · simp [*]
  · split <;> simp [*]
set_option maxHeartbeats 1000000 in
theorem rfin_any (A : Option Addr) (n c : Nat) (l : List Nat) (w : World) (hA : Row w A (f64s l)) (hW : Wds l) (hl : l.length = n) (hn : n < 1048576) :
    Calls Try.prog 9 #[.slice A n c] w fun e w' => e = .returned (.bool (l.all Fl.fin)) ∧ w = w' := by
  have HA := Lib.hid hA
  have HW := Lib.hid hW
  have Hl := Lib.hid hl
  clear hA hW hl
  go_enter Try.func9, Try.ntmps9
  go_wp2_with fail
  go_loop [3] (fun i => ∃ k : Nat, k ≤ n ∧ i = .int .i64 k ∧ (l.take k).all Fl.fin = true) (fun i => n - (intOf i).toNat)
  case atStart => exact ⟨0, Nat.zero_le _, rfl, by simp⟩
  case round =>
    obtain ⟨k, hk, rfl, ha⟩ := hrel
    have HAl := Lib.hid ha
    clear ha
    by_cases hlt : k < n
    · have hkl : k < l.length := by rw [Hl.out]; exact hlt
      obtain ⟨b, o, rfl, hc⟩ := HA.out.get0 hkl
      have hw := HW.out.at_ k hkl
      have hstep := all_take l k hkl
      rw [HAl.out] at hstep
      rw [getD_of_lt hkl] at hc
      have hkd := kind_fin2 l[k]
      obtain ⟨z, hz⟩ : ∃ z, l[k] = z := ⟨_, rfl⟩
      rw [hz] at hc hw hstep hkd
      have HS := Lib.hid hstep
      have HX := Lib.hid hw
      have hqc : (k : Int) < (n : Int) := by omega
      have hk1 : k + 1 ≤ 1048576 := by omega
      clear hstep hw hz hkl
      cases hf : Fl.fin z
      · rw [hf] at hkd
        have HF := Lib.hid hf
        clear hf
        go_wp2_with fail
        refine (parts_any z _ HX.out).mono ?_
        rintro e w' ⟨rfl, rfl⟩
        go_wp2_with fail
        go_ret
        refine ⟨ret_bool ?_, rfl⟩
        have h1 := HS.out
        rw [HF.out] at h1
        exact (all_of_take h1).symm
      · rw [hf] at hkd
        have HF := Lib.hid hf
        clear hf
        go_wp2_with fail
        refine (parts_any z _ HX.out).mono ?_
        rintro e w' ⟨rfl, rfl⟩
        go_wp2_with fail
        go_round
        case rel => exact ⟨k + 1, by omega, by go_num, by rw [HS.out, HF.out]; rfl⟩
        case measure => simp [intOf]; omega
    · obtain rfl : k = n := by omega
      have hqc : ¬ (k : Int) < (k : Int) := by omega
      go_wp2_with fail
      go_ret
      exact ⟨ret_bool (by rw [← HAl.out, List.take_of_length_le (by have := Hl.out; omega)]), rfl⟩
end Go.Proofs.Ytjjneiidggcfdaa
set_option linter.unusedVariables false
namespace Go.Proofs.Ytjjneiidggcfdaa
open Go.RowKit

/-- The two values lie in blocks of their own. -/
def Apart (v u : Value) : Prop := v.ownBlock = none ∨ u.ownBlock = none ∨ v.ownBlock ≠ u.ownBlock
theorem Apart.symm {v u : Value} (h : Apart v u) : Apart u v := by
  rcases h with h | h | h
  · exact .inr (.inl h)
  · exact .inl h
  · exact .inr (.inr (fun e => h e.symm))
theorem rows_apart {Z : Nat} {w w' : World} {e : TypeId} {k m : Nat} {v v' u : Value} {ys : List Value} (h2 : w.ownsRow Z e k u m ys) (hne : Apart v u) (hg : w.grownBy w' v.ownBlock) {z : Nat} (hat : v'.ownBlock = v.ownBlock ∨ v'.ownBlock = some z) (hz : z = w.heap.size) :
    w'.ownsRow Z e k u m ys ∧ Apart v' u := by
  constructor
  · refine h2.kept hg ?_
    rcases hne with h | h | h
    · cases hu : u.ownBlock with
      | none => exact .inl rfl
      | some x => exact .inr (by rw [h]; simp)
    · exact .inl h
    · exact .inr (fun e => h e.symm)
  · rcases hat with h | h
    · rcases hne with a | a | a
      · exact .inl (by rw [h]; exact a)
      · exact .inr (.inl a)
      · exact .inr (.inr (by rw [h]; exact a))
    · cases hu : u.ownBlock with
      | none => exact .inr (.inl hu)
      | some x =>
        have := (h2.lt x hu).2
        exact .inr (.inr (by rw [h, hu]; intro e; injection e with e; omega))
end Go.Proofs.Ytjjneiidggcfdaa
set_option linter.unusedVariables false
set_option linter.unusedSimpArgs false
set_option linter.unnecessarySimpa false
namespace Go.Proofs.Ytjjneiidggcfdaa
open Go.RowKit
attribute [local go_sem ↓] Go.wp_at_zero Go.wp_at_succ

/-- The first q numbers of a list told by a rule. -/
def cntF (f : Nat → Nat) (q : Nat) : List Nat := (List.range q).map f
theorem cntF_length (f : Nat → Nat) (q : Nat) : (cntF f q).length = q := by simp [cntF]
theorem cntF_succ (f : Nat → Nat) (q : Nat) : cntF f (q + 1) = cntF f q ++ [f q] := by simp [cntF, List.range_succ]
theorem cntF_getD (f : Nat → Nat) {q j : Nat} (h : j < q) : (cntF f q).getD j 0 = f j := by simp [cntF, List.getD, h]
theorem abs_rung (b : Nat) : Fl.rung (absW b) = Fl.rung b := by unfold Fl.rung absW; omega
theorem abs_sg (b : Nat) : Fl.sg (absW b) = false := by
  unfold Fl.sg absW
  rw [beq_eq_false_iff_ne]; omega
theorem abs_val (b : Nat) : Fl.val (absW b) = (Fl.val b).natAbs := by
  unfold Fl.val
  rw [abs_sg, abs_rung]
  cases Fl.sg b <;> simp
theorem dotE_abs {l m l' m' : List Nat} : ∀ n, (∀ k, k < n → l'.getD k 0 = absW (l.getD k 0)) → (∀ k, k < n → m'.getD k 0 = absW (m.getD k 0)) → dotE l' m' n = (dotA l m n : Int)
  | 0, _, _ => rfl
  | n + 1, h, h' => by
    have ih := dotE_abs (l := l) (m := m) n (fun k hk => h k (by omega)) (fun k hk => h' k (by omega))
    show dotE l' m' n + Fl.val (l'.getD n 0) * Fl.val (m'.getD n 0) = ((dotA l m n + (Fl.val (l.getD n 0) * Fl.val (m.getD n 0)).natAbs : Nat) : Int)
    rw [ih, h n (by omega), h' n (by omega), abs_val, abs_val, Int.natAbs_mul]
    simp
theorem dotE_congr {l m l' m' : List Nat} : ∀ n, (∀ k, k < n → l'.getD k 0 = l.getD k 0) → (∀ k, k < n → m'.getD k 0 = m.getD k 0) → dotE l' m' n = dotE l m n ∧ dotF l' m' n = dotF l m n
  | 0, _, _ => ⟨rfl, rfl⟩
  | n + 1, h, h' => by
    have ih := dotE_congr n (fun k hk => h k (by omega)) (fun k hk => h' k (by omega))
    constructor
    · show dotE l' m' n + _ = dotE l m n + _
      rw [ih.1, h n (by omega), h' n (by omega)]
    · unfold dotF
      rw [ih.2, h n (by omega), h' n (by omega)]
/-- What is compared in the end. -/
theorem close_cmp (L M : List Nat) (n : Nat) (hn : n ≤ 60) (hr : Fl.rung (dotF L M n) < Fl.INF) :
    ∃ Z : Int, dabs (fdy (dotF L M n) - dy (dotE L M n) (-2148)) - (dy (dotA L M n : Int) (-2148) * dy 1 (-52) + dy 1 0 * dy 1 (-1074)) * dy (n : Int) 0 = dy Z (-2200) ∧ Z ≤ 0 := by
  have hc := dot_close L M n hn hr
  obtain ⟨k, hk⟩ : ∃ k, k = 1074 := ⟨_, rfl⟩
  rw [← hk] at hc
  have e1 : fdy (dotF L M n) = dy (Fl.val (dotF L M n) * 2 ^ k) (-2148) := by unfold fdy; rw [dy_pow]; congr 1; omega
  have e2 : ((2 ^ k : Nat) : Int) = (2 : Int) ^ k := by simp
  rw [e2] at hc
  have e3 : dy 1 0 * dy 1 (-1074) = dy (1 * 2 ^ (52 + k)) (-2200) := by rw [dy_one, dy_pow]; congr 1; omega
  have e4 : ∀ a : Int, dy a (-2148) = dy (a * 2 ^ 52) (-2200) := fun a => by rw [dy_pow]; congr 1
  rw [e1, dy_sub, dabs_dy, e4, dy_one, show ((-2148 : Int) + -52) = -2200 by omega, e3, dy_add, dy_mul, show ((-2200 : Int) + 0) = -2200 by omega, dy_sub]
  refine ⟨_, rfl, ?_⟩
  have e5 : (1 : Int) * 2 ^ (52 + k) = ((4503599627370496 * 2 ^ k : Nat) : Int) := by
    rw [Int.one_mul, Int.pow_add]; simp
  rw [e5]
  have e6 : ((dotA L M n : Int) + ((4503599627370496 * 2 ^ k : Nat) : Int)) * (n : Int) = ((n * (dotA L M n + 4503599627370496 * 2 ^ k) : Nat) : Int) := by
    rw [← Int.natCast_add, ← Int.natCast_mul, Nat.mul_comm]
  rw [e6]
  generalize Fl.val (dotF L M n) * 2 ^ k - dotE L M n = D at *
  generalize n * (dotA L M n + 4503599627370496 * 2 ^ k) = X at *
  have e7 : (2 : Int) ^ 52 = 4503599627370496 := by decide
  rw [e7]
  omega
theorem dotE_sz {l m : List Nat} : ∀ n, (∀ k, k < n → Fl.rung (l.getD k 0) < Fl.INF) → (∀ k, k < n → Fl.rung (m.getD k 0) < Fl.INF) → Sz (2148 + n) (dy (dotE l m n) (-2148))
  | 0, _, _ => Sz.zero _
  | n + 1, h, h' => by
    have ih := dotE_sz n (fun k hk => h k (by omega)) (fun k hk => h' k (by omega))
    have h1 := Sz.mul (n := 2148) (Sz.float (h n (by omega))) (Sz.float (h' n (by omega))) (by omega)
    have := Sz.add (n := 2148 + (n + 1)) ih h1 (by omega) (by omega)
    rw [fdy_mul, dy_add] at this
    exact this
theorem min_int (R C : Nat) : (if (C : Int) < (R : Int) then (C : Int) else (R : Int)) = ((min R C : Nat) : Int) := by split <;> omega
theorem run_min_nat (P : Program) (ts : Array TypeId) (t : TypeId) (x y : Nat) (w : World) : (Builtin.min_ ts t #[.int .i64 (x : Int), .int .i64 (y : Int)]).run P w = .ok (.int .i64 ((min x y : Nat) : Int)) w := by
  rw [← min_int]
  simp [Builtin.min_, Builtin.min2]
attribute [local go_sem ↓] run_min_nat

set_option maxRecDepth 100000 in
set_option maxHeartbeats 4000000 in
theorem sumsClose_out (A : Option Addr) (n c : Nat) (l : List Nat) (A' : Option Addr) (n' c' : Nat) (l' : List Nat) (w : World) (hA : Row w A (f64s l)) (hW : Wds l) (hl : l.length = n) (hA' : Row w A' (f64s l')) (hW' : Wds l') (hl' : l'.length = n')
    (h : 60 < n ∨ (n ≤ 60 ∧ 60 < n') ∨ (n ≤ 60 ∧ n' ≤ 60 ∧ l.all Fl.fin = false) ∨ (n ≤ 60 ∧ n' ≤ 60 ∧ l.all Fl.fin = true ∧ l'.all Fl.fin = false)) :
    Calls Try.prog 3 #[.slice A n c, .slice A' n' c'] w fun e w' => e = .returned (.bool true) ∧ Below w.heap.size w w' := by
  have HF := Lib.hid (fun (hn : n ≤ 60) W (hb : Below w.heap.size w W) => rfin_any A n c l W (hA.below hb) hW hl (by omega))
  have HF' := Lib.hid (fun (hn : n' ≤ 60) W (hb : Below w.heap.size w W) => rfin_any A' n' c' l' W (hA'.below hb) hW' hl' (by omega))
  clear hA hW hl hA' hW' hl'
  rcases h with h | ⟨h, h2⟩ | ⟨h, h2, h3⟩ | ⟨h, h2, h3, h4⟩
  · have hn60 : decide ((60 : Int) < (n : Int)) = true := by simp; omega
    go_enter Try.func3, Try.ntmps3
    go_wp2_with fail
    refine (awake5_any _).mono ?_
    rintro e w1 ⟨rfl, hb⟩
    have HB1 := Lib.hid hb
    clear hb
    go_wp2_with fail
    refine (awake5_any _).mono ?_
    rintro e w9 ⟨rfl, hb⟩
    have HB9 := Lib.hid (below_nx HB1.out hb)
    clear hb
    go_wp2_with fail
    go_ret
    exact ⟨rfl, HB9.out⟩
  · have hn60 : decide ((60 : Int) < (n : Int)) = false := by simp; omega
    have hn61 : decide ((60 : Int) < (n' : Int)) = true := by simp; omega
    go_enter Try.func3, Try.ntmps3
    go_wp2_with fail
    refine (awake5_any _).mono ?_
    rintro e w1 ⟨rfl, hb⟩
    have HB1 := Lib.hid hb
    clear hb
    go_wp2_with fail
    refine (awake5_any _).mono ?_
    rintro e w9 ⟨rfl, hb⟩
    have HB9 := Lib.hid (below_nx HB1.out hb)
    clear hb
    go_wp2_with fail
    go_ret
    exact ⟨rfl, HB9.out⟩
  · have hn60 : decide ((60 : Int) < (n : Int)) = false := by simp; omega
    have hn61 : decide ((60 : Int) < (n' : Int)) = false := by simp; omega
    rw [h3] at HF
    go_enter Try.func3, Try.ntmps3
    go_wp2_with fail
    refine (awake5_any _).mono ?_
    rintro e w1 ⟨rfl, hb⟩
    have HB1 := Lib.hid hb
    clear hb
    go_wp2_with fail
    refine (HF.out h _ HB1.out).mono ?_
    rintro e w2 ⟨rfl, rfl⟩
    go_wp2_with fail
    refine (awake5_any _).mono ?_
    rintro e w9 ⟨rfl, hb⟩
    have HB9 := Lib.hid (below_nx HB1.out hb)
    clear hb
    go_wp2_with fail
    go_ret
    exact ⟨rfl, HB9.out⟩
  · have hn60 : decide ((60 : Int) < (n : Int)) = false := by simp; omega
    have hn61 : decide ((60 : Int) < (n' : Int)) = false := by simp; omega
    rw [h3] at HF
    rw [h4] at HF'
    go_enter Try.func3, Try.ntmps3
    go_wp2_with fail
    refine (awake5_any _).mono ?_
    rintro e w1 ⟨rfl, hb⟩
    have HB1 := Lib.hid hb
    clear hb
    go_wp2_with fail
    refine (HF.out h _ HB1.out).mono ?_
    rintro e w2 ⟨rfl, rfl⟩
    go_wp2_with fail
    refine (HF'.out h2 _ HB1.out).mono ?_
    rintro e w2 ⟨rfl, rfl⟩
    go_wp2_with fail
    refine (awake5_any _).mono ?_
    rintro e w9 ⟨rfl, hb⟩
    have HB9 := Lib.hid (below_nx HB1.out hb)
    clear hb
    go_wp2_with fail
    go_ret
    exact ⟨rfl, HB9.out⟩

end Go.Proofs.Ytjjneiidggcfdaa
set_option linter.unusedVariables false
set_option linter.unusedSimpArgs false
set_option linter.unnecessarySimpa false
namespace Go.Proofs.Ytjjneiidggcfdaa
open Go.RowKit
attribute [local go_sem ↓] Go.wp_at_zero Go.wp_at_succ

attribute [local go_sem ↓] run_min_nat
theorem cntF_abs (l : List Nat) {f : Nat → Nat} (h : (fun q => absW (l.getD q 0)) = f) (N : Nat) : Wds (cntF f N) := by
  intro b hb
  subst h
  obtain ⟨k, _, rfl⟩ := List.mem_map.1 hb
  have := absW_lt (l.getD k 0)
  omega
theorem all_fin {l : List Nat} (h : l.all Fl.fin = true) (k : Nat) : Fl.rung (l.getD k 0) < Fl.INF := by
  by_cases hk : k < l.length
  · rw [getD_of_lt hk]
    exact of_decide_eq_true (List.all_eq_true.1 h _ (List.getElem_mem hk))
  · rw [getD_of_le (by omega)]; decide
theorem fin_take {l : List Nat} (h : l.all Fl.fin = true) (N k : Nat) : Fl.rung ((l.take N).getD k 0) < Fl.INF := by
  by_cases hk : k < N
  · rw [show (l.take N).getD k 0 = l.getD k 0 by simp [List.getD, List.getElem?_take, hk]]
    exact all_fin h k
  · rw [getD_of_le (by rw [List.length_take]; omega)]; decide
theorem row_take0 {w : World} {A : Option Addr} {l : List Nat} (h : Row w A (f64s l)) (N : Nat) : Row w A (f64s (l.take N)) := by
  rcases h with h | ⟨b, o, e, hc⟩
  · have : l = [] := by simpa [f64s] using h
    subst this
    exact .inl (by simp [f64s])
  · refine .inr ⟨b, o, e, fun i v hi => hc i v ?_⟩
    rw [show f64s (l.take N) = (f64s l).take N by simp [f64s, List.map_take]] at hi
    rw [List.getElem?_take] at hi
    split at hi
    · exact hi
    · cases hi
theorem wds_take {l : List Nat} (h : Wds l) (N : Nat) : Wds (l.take N) := fun b hb => h b (List.mem_of_mem_take hb)

set_option maxRecDepth 100000 in
set_option maxHeartbeats 4000000 in
theorem sumsClose_ok (A : Option Addr) (n c : Nat) (l : List Nat) (A' : Option Addr) (n' c' : Nat) (l' : List Nat) (w : World) (hA : Row w A (f64s l)) (hW : Wds l) (hl : l.length = n) (hA' : Row w A' (f64s l')) (hW' : Wds l') (hl' : l'.length = n') (hn : n ≤ 60) (hn' : n' ≤ 60) (hc : n ≤ c) (hc' : n' ≤ c') (hfl : l.all Fl.fin = true) (hfl' : l'.all Fl.fin = true) :
    Calls Try.prog 3 #[.slice A n c, .slice A' n' c'] w fun e w' => e = .returned (.bool true) ∧ Below w.heap.size w w' := by
  obtain ⟨i0, hi, hz0, hz1, hz2⟩ := fi0
  have hn60 : decide ((60 : Int) < (n : Int)) = false := by simp; omega
  have hn61 : decide ((60 : Int) < (n' : Int)) = false := by simp; omega
  obtain ⟨N, hN⟩ : ∃ N, min n n' = N := ⟨_, rfl⟩
  have HN := Lib.hid (show N ≤ n ∧ N ≤ n' ∧ N ≤ 60 by omega)
  have hF := fun W (hb : Below w.heap.size w W) => rfin_any A n c l W (hA.below hb) hW hl (by omega)
  have hF' := fun W (hb : Below w.heap.size w W) => rfin_any A' n' c' l' W (hA'.below hb) hW' hl' (by omega)
  rw [hfl] at hF
  rw [hfl'] at hF'
  have HF := Lib.hid hF
  have HF' := Lib.hid hF'
  have HDo := Lib.hid (fun W (hb : Below w.heap.size w W) => show Calls Try.prog 10 #[.agg #[.slice A n c, .int .i64 0, .int .i64 (N : Int), .int .i64 1], .agg #[.slice A' n' c', .int .i64 0, .int .i64 (N : Int), .int .i64 1]] W fun e w' => ∃ r, e = .returned (.tuple #[.float .f64 r, .int .i64 0]) ∧ Is r (dotF (l.take N) (l'.take N) N) ∧ Below W.heap.size W w' from by
    refine (dot_ok A A' n c l 0 N 1 n' c' l' 0 1 W (hA.below hb) (hA'.below hb) hW hW' hl hl' (by omega) (by omega) (by omega) (by omega) (by omega) (decide_eq_true (by omega)) (decide_eq_true (by omega)) (by unfold I64; omega) (by unfold I64; omega) (by unfold I64; omega) (by unfold I64; omega)).mono ?_
    rintro e w' ⟨r, rfl, hr, hb⟩
    rw [(dotE_congr (l := l.take N) (m := l'.take N) N (fun k hk => by rw [lst_getD _ _ _ hk]; simp [List.getD, List.getElem?_take, hk]) (fun k hk => by rw [lst_getD _ _ _ hk]; simp [List.getD, List.getElem?_take, hk])).2] at hr
    exact ⟨r, rfl, hr, hb⟩)
  obtain ⟨PP, hPP⟩ : ∃ f : Nat → Nat, (fun q => absW (l.getD q 0)) = f := ⟨_, rfl⟩
  obtain ⟨QQ, hQQ⟩ : ∃ f : Nat → Nat, (fun q => absW (l'.getD q 0)) = f := ⟨_, rfl⟩
  have hPq := fun q => (congrFun hPP q).symm
  have hQq := fun q => (congrFun hQQ q).symm
  have hdA : dotE (cntF PP N) (cntF QQ N) N = (dotA (l.take N) (l'.take N) N : Int) := dotE_abs N (fun k hk => by rw [cntF_getD _ hk, hPq]; simp [List.getD, List.getElem?_take, hk]) (fun k hk => by rw [cntF_getD _ hk, hQq]; simp [List.getD, List.getElem?_take, hk])
  have hfP : ∀ k, k < N → Fl.rung ((cntF PP N).getD k 0) < Fl.INF := fun k hk => by rw [cntF_getD _ hk, hPq, abs_rung]; exact all_fin hfl k
  have hfQ : ∀ k, k < N → Fl.rung ((cntF QQ N).getD k 0) < Fl.INF := fun k hk => by rw [cntF_getD _ hk, hQq, abs_rung]; exact all_fin hfl' k
  have hwP : Wds (cntF PP N) := cntF_abs l hPP N
  have hwQ : Wds (cntF QQ N) := cntF_abs l' hQQ N
  have HPQ := Lib.hid (fun W (B B' : Option Addr) (d d' : Nat) (hB : Row W B (f64s (cntF PP N))) (hB' : Row W B' (f64s (cntF QQ N))) => show Calls Try.prog 14 #[.slice B N d, .slice B' N d'] W (RetV (dy (dotA (l.take N) (l'.take N) N : Int) (-2148)) W) from by
    have := rdotd_v B B' N d d' (cntF PP N) (cntF QQ N) W hB hB' hwP hwQ (cntF_length PP N) (cntF_length QQ N) (by omega) hfP hfQ
    rw [hdA] at this
    exact this)
  have hsA : Sz (2148 + N) (dy (dotA (l.take N) (l'.take N) N : Int) (-2148)) := by
    have := dotE_sz N hfP hfQ
    rw [hdA] at this
    exact this
  have HDt := Lib.hid (fun W (hb : Below w.heap.size w W) => rdotd_v A A' N c c' (l.take N) (l'.take N) W ((row_take0 hA N).below hb) ((row_take0 hA' N).below hb) (wds_take hW N) (wds_take hW' N) (by rw [List.length_take]; omega) (by rw [List.length_take]; omega) (by omega) (fun k _ => fin_take hfl N k) (fun k _ => fin_take hfl' N k))
  have hsD := dotE_sz (l := l.take N) (m := l'.take N) N (fun k _ => fin_take hfl N k) (fun k _ => fin_take hfl' N k)
  have HCl := Lib.hid (fun (r : Nat) (hr : r = dotF (l.take N) (l'.take N) N) (hf : Fl.rung r < Fl.INF) => show ∃ Z : Int, dabs (fdy r - dy (dotE (l.take N) (l'.take N) N) (-2148)) - (dy (dotA (l.take N) (l'.take N) N : Int) (-2148) * dy 1 (-52) + dy 1 0 * dy 1 (-1074)) * dy (N : Int) 0 = dy Z (-2200) ∧ Z ≤ 0 from by
    subst hr; exact close_cmp _ _ N (by omega) hf)
  generalize dy (dotE (l.take N) (l'.take N) N) (-2148) = D1 at *
  generalize dy (dotA (l.take N) (l'.take N) N : Int) (-2148) = D2 at *
  generalize dotF (l.take N) (l'.take N) N = S at *
  have HS := Lib.hid (And.intro hsA hsD)
  have H0 := Lib.hid (And.intro hA (And.intro hA' (And.intro hl hl')))
  have H1 := Lib.hid (And.intro hW hW')
  have HPq := Lib.hid hPq
  have HQq := Lib.hid hQq
  have hs1 : N ≤ c := by omega
  have hs2 : N ≤ c' := by omega
  have hs1' : (N : Int) ≤ (c : Int) := by omega
  have hs2' : (N : Int) ≤ (c' : Int) := by omega
  clear hF hF' hPP hQQ hPq hQq hdA hfP hfQ hwP hwQ hsA hsD hA hA' hW hW' hl hl' hc hc' hfl hfl'
  go_enter Try.func3, Try.ntmps3
  go_wp2_with fail
  refine (awake5_any _).mono ?_
  rintro e w1 ⟨rfl, hb⟩
  have HB1 := Lib.hid hb
  clear hb
  go_wp2_with fail
  refine (HF.out _ HB1.out).mono ?_
  rintro e w2 ⟨rfl, rfl⟩
  go_wp2_with fail
  refine (HF'.out _ HB1.out).mono ?_
  rintro e w2 ⟨rfl, rfl⟩
  go_wp2_with fail
  refine (HDo.out _ HB1.out).mono ?_
  rintro e w2 ⟨r, rfl, hr, hb⟩
  have HB2 := Lib.hid (below_nx HB1.out hb)
  have HIs := Lib.hid hr
  have HN2 := Lib.hid hN
  clear hb hr hN
  go_wp2_with fail
  have HRr := Lib.hid (row_of_blk (Blk.new w2 25 (f64s [r]).toArray))
  refine (rfin_any _ 1 1 [r] _ HRr.out (by intro b hb; simp at hb; subst hb; exact HIs.out.lt) rfl (by omega)).mono ?_
  rintro e w3 ⟨rfl, rfl⟩
  have HB3 := Lib.hid (below_al HB2.out (o := .cells (f64s [r]).toArray 25))
  have hfb : [r].all Fl.fin = Fl.fin r := by simp
  rw [hfb]
  obtain ⟨fb, hfr⟩ : ∃ fb, Fl.fin r = fb := ⟨_, rfl⟩
  rw [hfr]
  have HFb := Lib.hid hfr
  clear hfr hfb HRr
  generalize (w2.alloc (.cells (f64s [r]).toArray 25)) = w3 at *
  cases fb
  · go_wp2_with fail
    refine (awake5_any _).mono ?_
    rintro e w9 ⟨rfl, hb⟩
    have HB9 := Lib.hid (below_nx HB3.out hb)
    clear hb
    go_wp2_with fail
    go_ret
    exact ⟨rfl, HB9.out⟩
  have HFr := Lib.hid (show r < 18446744073709551616 ∧ Fl.rung r < Fl.INF from ⟨HIs.out.lt, of_decide_eq_true HFb.out⟩)
  go_wp2_with fail
  go_loopw [8, 9, 10] (fun up dn i wr => ∃ q : Nat, q ≤ N ∧ i = .int .i64 q ∧ wr.ownsRow w.heap.size 25 1 up q (f64s (cntF PP q)) ∧ wr.ownsRow w.heap.size 25 1 dn q (f64s (cntF QQ q)) ∧ Apart up dn ∧ Below w.heap.size w wr) (fun _ _ i _ => N - (intOf i).toNat)
  case atStart => exact ⟨0, Nat.zero_le _, rfl, World.ownsRow_nil _ _ _ _, World.ownsRow_nil _ _ _ _, .inl rfl, HB3.out⟩
  case round =>
    obtain ⟨q, hq, rfl, hou, hod, hap0, hbl⟩ := hrel
    have HOp := Lib.hid hou
    have HOq := Lib.hid hod
    have HAp1 := Lib.hid hap0
    have HBl1 := Lib.hid hbl
    clear hou hod hap0 hbl
    by_cases hlt : q < N
    · obtain ⟨b, y0, rfl, hcx⟩ := H0.out.1.get0 (k := q) (by rw [H0.out.2.2.1]; have := HN.out; omega)
      obtain ⟨b', y0', rfl, hcy⟩ := H0.out.2.1.get0 (k := q) (by rw [H0.out.2.2.2]; have := HN.out; omega)
      have hPq := HPq.out q
      have hQq := HQq.out q
      have hx64 := getD_wds H1.out.1 q
      have hy64 := getD_wds H1.out.2 q
      generalize l.getD q 0 = x at *
      generalize l'.getD q 0 = y at *
      have HCy := Lib.hid hcy
      have HPX := Lib.hid hPq
      have HQX := Lib.hid hQq
      have hcell := cell_below hcx HBl1.out
      have b1 : (q : Int) < (n : Int) := by have := HN.out; omega
      have b2 : (q : Int) < (n' : Int) := by have := HN.out; omega
      have b3 : q < n := by have := HN.out; omega
      have b4 : q < n' := by have := HN.out; omega
      have hqc : (q : Int) < (N : Int) := by omega
      have hq1 : q + 1 ≤ 1048576 := by have := HN.out; omega
      clear hcx hcy hPq hQq
      go_wp2_with fail
      refine (rabs_any x _ hx64).mono ?_
      rintro e w4 ⟨rfl, rfl⟩
      have hxa : absW x < 18446744073709551616 := by have := absW_lt x; omega
      obtain ⟨ax, hax⟩ : ∃ ax, absW x = ax := ⟨_, rfl⟩
      rw [hax] at HPX ⊢
      clear hax hxa
      have HN1 := Lib.hid (Blk.new wr 25 #[.float .f64 ax])
      have HOa1 := Lib.hid (HOp.out.alloc (.cells #[.float .f64 ax] 25))
      have HOb1 := Lib.hid (HOq.out.alloc (.cells #[.float .f64 ax] 25))
      go_wp2_with (at_builtin; refine wpList_append_own_at _ rfl _ _ 22 rfl w.heap.size 25 i0 (.float .f64 0) 1 8 Try.underlying22 hi hz0 hz1 hz2 rfl (by decide) _ q (f64s (cntF PP q)) rfl HOa1.out ⟨wr.heap.size, 0, none⟩ 1 1 [.float .f64 ax] rfl rfl ?c11 (by intro u hu; simp at hu; subst hu; rfl) ?c31 ?c41 ?c51 ?_)
      case c11 => exact cell_one_new _ _ _
      case c31 => unfold maxLen; omega
      case c41 => omega
      case c51 => (try simp); have := HBl1.out.size; omega
      intro v1 w4 hown' hgrow _ hat
      obtain ⟨hot, hap⟩ := rows_apart HOb1.out HAp1.out hgrow hat (by simp)
      have HOp2 := Lib.hid (show w4.ownsRow w.heap.size 25 1 v1 (q + 1) (f64s (cntF PP (q + 1))) by rw [cntF_succ, f64s_snoc, HPX.out]; exact hown')
      have HOq2 := Lib.hid hot
      have HAp2 := Lib.hid hap.symm
      have HBl2 := Lib.hid ((HBl1.out.alloc HBl1.out.size (.cells #[.float .f64 ax] 25)).grown hgrow (by simp; have := HBl1.out.size; omega) (fun k hk => by have := (HOa1.out.lt k hk).1; omega))
      clear hown' hgrow hot hap hat hcell
      have hcell := cell_below HCy.out HBl2.out
      go_wp2_with fail
      refine (rabs_any y _ hy64).mono ?_
      rintro e w5 ⟨rfl, rfl⟩
      obtain ⟨ay, hay⟩ : ∃ ay, absW y = ay := ⟨_, rfl⟩
      rw [hay] at HQX ⊢
      clear hay
      have HN2 := Lib.hid (Blk.new w4 25 #[.float .f64 ay])
      have HOa2 := Lib.hid (HOq2.out.alloc (.cells #[.float .f64 ay] 25))
      have HOb2 := Lib.hid (HOp2.out.alloc (.cells #[.float .f64 ay] 25))
      go_wp2_with (at_builtin; refine wpList_append_own_at _ rfl _ _ 22 rfl w.heap.size 25 i0 (.float .f64 0) 1 8 Try.underlying22 hi hz0 hz1 hz2 rfl (by decide) _ q (f64s (cntF QQ q)) rfl HOa2.out ⟨w4.heap.size, 0, none⟩ 1 1 [.float .f64 ay] rfl rfl ?c12 (by intro u hu; simp at hu; subst hu; rfl) ?c32 ?c42 ?c52 ?_)
      case c12 => exact cell_one_new _ _ _
      case c32 => unfold maxLen; omega
      case c42 => omega
      case c52 => (try simp); have := HBl2.out.size; omega
      intro v2 w5 hown' hgrow _ hat
      obtain ⟨hot, hap⟩ := rows_apart HOb2.out HAp2.out hgrow hat (by simp)
      have HOq3 := Lib.hid (show w5.ownsRow w.heap.size 25 1 v2 (q + 1) (f64s (cntF QQ (q + 1))) by rw [cntF_succ, f64s_snoc, HQX.out]; exact hown')
      have HOp3 := Lib.hid hot
      have HAp3 := Lib.hid hap.symm
      have HBl3 := Lib.hid ((HBl2.out.alloc HBl2.out.size (.cells #[.float .f64 ay] 25)).grown hgrow (by simp; have := HBl2.out.size; omega) (fun k hk => by have := (HOa2.out.lt k hk).1; omega))
      clear hown' hgrow hot hap hat hcell
      go_wp2_with fail
      go_roundw
      case rel => exact ⟨q + 1, by omega, by go_num, HOp3.out, HOq3.out, HAp3.out, HBl3.out⟩
      case measure => simp [intOf]; omega
    · obtain rfl : N = q := by omega
      have hqc : ¬ (N : Int) < (N : Int) := by omega
      obtain ⟨Bp, cp, rfl, hrp⟩ := own_row HOp.out (cntF_length PP N).symm
      obtain ⟨Bq, cq, rfl, hrq⟩ := own_row HOq.out (cntF_length QQ N).symm
      have HRp := Lib.hid hrp
      have HRq := Lib.hid hrq
      have HBq := HBl1
      have HFt := Lib.hid (show Fitd (fdy r) ∧ Fitd D1 ∧ Fitd (dabs (fdy r - D1)) ∧ Fitd D2 ∧ Fitd (D2 * dy 1 (-52)) ∧ Fitd (dy 1 0) ∧ Fitd (dy 1 0 * dy 1 (-1074)) ∧ Fitd (D2 * dy 1 (-52) + dy 1 0 * dy 1 (-1074)) ∧ Fitd (dy (N : Int) 0) ∧ Fitd ((D2 * dy 1 (-52) + dy 1 0 * dy 1 (-1074)) * dy (N : Int) 0) from by
        have hq60 := HN.out.2.2
        have s0 : Sz 1074 (fdy r) := Sz.float HFr.out.2
        have s1 : Sz 2300 D1 := HS.out.2.mono (by omega)
        have s2 : Sz 2300 D2 := HS.out.1.mono (by omega)
        have s3 : Sz 2400 (D2 * dy 1 (-52)) := s2.shift (-52) (by omega)
        have s4 : Sz 1 (dy 1 0) := Sz.int (by omega)
        have s5 : Sz 1100 (dy 1 0 * dy 1 (-1074)) := s4.shift (-1074) (by omega)
        have s6 : Sz 2500 (D2 * dy 1 (-52) + dy 1 0 * dy 1 (-1074)) := s3.add s5 (by omega) (by omega)
        have s7 : Sz 8 (dy (N : Int) 0) := Sz.int (by omega)
        exact ⟨s0.fit (by omega), s1.fit (by omega), (Sz.sub (n := 2400) s0 s1 (by omega) (by omega)).abs.fit (by omega), s2.fit (by omega), s3.fit (by omega), s4.fit (by omega), s5.fit (by omega), s6.fit (by omega), s7.fit (by omega), (s6.mul (n := 2600) s7 (by omega)).fit (by omega)⟩)
      have HZ := Lib.hid (HCl.out r (HIs.out.eq_of (by rw [← HIs.out.nan]; exact decide_eq_false (by have := HFr.out.2; omega))) HFr.out.2)
      clear hrp hrq HOp HOq
      go_wp2_with fail
      refine wp_region_inv [77, 78, 79, 80, 81, 82, 83, 84, 85, 86, 87, 11] (fun d s W => (d 0 = true → s 77 = .float .f64 r) ∧ (d 1 = true → DV W (s 78) (fdy r)) ∧ (d 2 = true → s 79 = .slice A n c) ∧ (d 3 = true → s 80 = .int .i64 (N : Int)) ∧ (d 4 = true → s 81 = .slice A N c) ∧ (d 5 = true → s 82 = .slice A' n' c') ∧ (d 6 = true → s 83 = .int .i64 (N : Int)) ∧ (d 7 = true → s 84 = .slice A' N c') ∧ (d 8 = true → DV W (s 85) (D1)) ∧ (d 9 = true → DV W (s 86) (fdy r - D1)) ∧ (d 10 = true → DV W (s 87) (dabs (fdy r - D1))) ∧ (d 11 = true → NewB W (s 11) wr.heap.size) ∧ (d 1 = true → d 0 = true) ∧ (d 4 = true → d 2 = true ∧ d 3 = true) ∧ (d 7 = true → d 5 = true ∧ d 6 = true) ∧ (d 8 = true → d 2 = true ∧ d 3 = true ∧ d 4 = true ∧ d 5 = true ∧ d 6 = true ∧ d 7 = true) ∧ (d 9 = true → d 0 = true ∧ d 1 = true ∧ d 2 = true ∧ d 3 = true ∧ d 4 = true ∧ d 5 = true ∧ d 6 = true ∧ d 7 = true ∧ d 8 = true) ∧ (d 10 = true → d 0 = true ∧ d 1 = true ∧ d 2 = true ∧ d 3 = true ∧ d 4 = true ∧ d 5 = true ∧ d 6 = true ∧ d 7 = true ∧ d 8 = true ∧ d 9 = true) ∧ (d 12 = true → d 0 = true ∧ d 1 = true ∧ d 2 = true ∧ d 3 = true ∧ d 4 = true ∧ d 5 = true ∧ d 6 = true ∧ d 7 = true ∧ d 8 = true ∧ d 9 = true ∧ d 10 = true ∧ d 11 = true) ∧ ((d 12 = false → Below wr.heap.size wr W) ∧ (d 12 = true → BxP W (s 11) wr.heap.size (dabs (fdy r - D1)) ∧ Below wr.heap.size wr W)))
        rfl (by kernel_rfl) ?_ ?_ ?_
      · exact ⟨by simp, by simp, by simp, by simp, by simp, by simp, by simp, by simp, by simp, by simp, by simp, by simp, by simp, by simp, by simp, by simp, by simp, by simp, by simp, ⟨fun _ => (Below.refl _ _).drew, fun h => by simp at h⟩⟩
      · refine ⟨?_, ?_, ?_, ?_, ?_, ?_, ?_, ?_, ?_, ?_, ?_, ?_, ?_, trivial⟩
        all_goals
          intro d s W hJ hfr hd hdep
          simp only [List.mem_cons, forall_eq_or_imp, List.not_mem_nil, false_implies, implies_true, and_true, Region.binds] at hdep
          have f0 := hfr 0 (by decide)
          have f1 := hfr 1 (by decide)
          have f5 := hfr 5 (by decide)
          have f6 := hfr 6 (by decide)
          simp at f0 f1 f5 f6 hdep
          obtain ⟨h0, h1, h2, h3, h4, h5, h6, h7, h8, h9, h10, h11, x0, x1, x2, x3, x4, x5, x6, hT⟩ := hJ
        · have hl : d 12 = false := by
            cases h : d 12
            · rfl
            · have := x6 h; simp [hd] at this
          replace hT := hT.1 hl
          unfold OpSteps
          simp [go_sem, evS, f6]
          exact ⟨fun _ => by simp [sput], fun h => by simpa [sput] using h1 (by simpa [did] using h), fun h => by simpa [sput] using h2 (by simpa [did] using h), fun h => by simpa [sput] using h3 (by simpa [did] using h), fun h => by simpa [sput] using h4 (by simpa [did] using h), fun h => by simpa [sput] using h5 (by simpa [did] using h), fun h => by simpa [sput] using h6 (by simpa [did] using h), fun h => by simpa [sput] using h7 (by simpa [did] using h), fun h => by simpa [sput] using h8 (by simpa [did] using h), fun h => by simpa [sput] using h9 (by simpa [did] using h), fun h => by simpa [sput] using h10 (by simpa [did] using h), fun h => by simpa [sput] using h11 (by simpa [did] using h), fun h => by have := x0 (by simpa [did] using h); simp [did, this], fun h => by have := x1 (by simpa [did] using h); simp [did, this], fun h => by have := x2 (by simpa [did] using h); simp [did, this], fun h => by have := x3 (by simpa [did] using h); simp [did, this], fun h => by have := x4 (by simpa [did] using h); simp [did, this], fun h => by have := x5 (by simpa [did] using h); simp [did, this], fun h => by have := x6 (by simpa [did] using h); simp [did, this], ⟨fun _ => hT, fun h => by simp [did, hl] at h⟩⟩
        · have hl : d 12 = false := by
            cases h : d 12
            · rfl
            · have := x6 h; simp [hd] at this
          replace hT := hT.1 hl
          have fz0 := h0 (by simp [hdep])
          unfold OpSteps
          simp [go_sem, evS, fz0]
          refine (rof_v r W HFr.out.1 HFr.out.2).mono ?_
          rintro e W' ⟨v9, rfl, hv, hb⟩
          refine ⟨_, rfl, ?_⟩
          exact ⟨fun h => by simpa [sput] using h0 (by simpa [did] using h), fun _ => by simpa [sput] using hv, fun h => by simpa [sput] using h2 (by simpa [did] using h), fun h => by simpa [sput] using h3 (by simpa [did] using h), fun h => by simpa [sput] using h4 (by simpa [did] using h), fun h => by simpa [sput] using h5 (by simpa [did] using h), fun h => by simpa [sput] using h6 (by simpa [did] using h), fun h => by simpa [sput] using h7 (by simpa [did] using h), fun h => by simpa [sput] using (h8 (by simpa [did] using h)).below hb, fun h => by simpa [sput] using (h9 (by simpa [did] using h)).below hb, fun h => by simpa [sput] using (h10 (by simpa [did] using h)).below hb, fun h => by simpa [sput] using (h11 (by simpa [did] using h)).below hb, fun _ => by simp [did, hdep], fun h => by have := x1 (by simpa [did] using h); simp [did, this], fun h => by have := x2 (by simpa [did] using h); simp [did, this], fun h => by have := x3 (by simpa [did] using h); simp [did, this], fun h => by have := x4 (by simpa [did] using h); simp [did, this], fun h => by have := x5 (by simpa [did] using h); simp [did, this], fun h => by have := x6 (by simpa [did] using h); simp [did, this], ⟨fun _ => below_nx hT hb, fun h => by simp [did, hl] at h⟩⟩
        · have hl : d 12 = false := by
            cases h : d 12
            · rfl
            · have := x6 h; simp [hd] at this
          replace hT := hT.1 hl
          unfold OpSteps
          simp [go_sem, evS, f0]
          exact ⟨fun h => by simpa [sput] using h0 (by simpa [did] using h), fun h => by simpa [sput] using h1 (by simpa [did] using h), fun _ => by simp [sput], fun h => by simpa [sput] using h3 (by simpa [did] using h), fun h => by simpa [sput] using h4 (by simpa [did] using h), fun h => by simpa [sput] using h5 (by simpa [did] using h), fun h => by simpa [sput] using h6 (by simpa [did] using h), fun h => by simpa [sput] using h7 (by simpa [did] using h), fun h => by simpa [sput] using h8 (by simpa [did] using h), fun h => by simpa [sput] using h9 (by simpa [did] using h), fun h => by simpa [sput] using h10 (by simpa [did] using h), fun h => by simpa [sput] using h11 (by simpa [did] using h), fun h => by have := x0 (by simpa [did] using h); simp [did, this], fun h => by have := x1 (by simpa [did] using h); simp [did, this], fun h => by have := x2 (by simpa [did] using h); simp [did, this], fun h => by have := x3 (by simpa [did] using h); simp [did, this], fun h => by have := x4 (by simpa [did] using h); simp [did, this], fun h => by have := x5 (by simpa [did] using h); simp [did, this], fun h => by have := x6 (by simpa [did] using h); simp [did, this], ⟨fun _ => hT, fun h => by simp [did, hl] at h⟩⟩
        · have hl : d 12 = false := by
            cases h : d 12
            · rfl
            · have := x6 h; simp [hd] at this
          replace hT := hT.1 hl
          unfold OpSteps
          simp [go_sem, evS, f5]
          exact ⟨fun h => by simpa [sput] using h0 (by simpa [did] using h), fun h => by simpa [sput] using h1 (by simpa [did] using h), fun h => by simpa [sput] using h2 (by simpa [did] using h), fun _ => by simp [sput], fun h => by simpa [sput] using h4 (by simpa [did] using h), fun h => by simpa [sput] using h5 (by simpa [did] using h), fun h => by simpa [sput] using h6 (by simpa [did] using h), fun h => by simpa [sput] using h7 (by simpa [did] using h), fun h => by simpa [sput] using h8 (by simpa [did] using h), fun h => by simpa [sput] using h9 (by simpa [did] using h), fun h => by simpa [sput] using h10 (by simpa [did] using h), fun h => by simpa [sput] using h11 (by simpa [did] using h), fun h => by have := x0 (by simpa [did] using h); simp [did, this], fun h => by have := x1 (by simpa [did] using h); simp [did, this], fun h => by have := x2 (by simpa [did] using h); simp [did, this], fun h => by have := x3 (by simpa [did] using h); simp [did, this], fun h => by have := x4 (by simpa [did] using h); simp [did, this], fun h => by have := x5 (by simpa [did] using h); simp [did, this], fun h => by have := x6 (by simpa [did] using h); simp [did, this], ⟨fun _ => hT, fun h => by simp [did, hl] at h⟩⟩
        · have hl : d 12 = false := by
            cases h : d 12
            · rfl
            · have := x6 h; simp [hd] at this
          replace hT := hT.1 hl
          have fz2 := h2 (by simp [hdep])
          have fz3 := h3 (by simp [hdep])
          unfold OpSteps
          simp [go_sem, evS, fz2, fz3, hs1, hs1']
          exact ⟨fun h => by simpa [sput] using h0 (by simpa [did] using h), fun h => by simpa [sput] using h1 (by simpa [did] using h), fun h => by simpa [sput] using h2 (by simpa [did] using h), fun h => by simpa [sput] using h3 (by simpa [did] using h), fun _ => by simp [sput], fun h => by simpa [sput] using h5 (by simpa [did] using h), fun h => by simpa [sput] using h6 (by simpa [did] using h), fun h => by simpa [sput] using h7 (by simpa [did] using h), fun h => by simpa [sput] using h8 (by simpa [did] using h), fun h => by simpa [sput] using h9 (by simpa [did] using h), fun h => by simpa [sput] using h10 (by simpa [did] using h), fun h => by simpa [sput] using h11 (by simpa [did] using h), fun h => by have := x0 (by simpa [did] using h); simp [did, this], fun _ => by simp [did, hdep], fun h => by have := x2 (by simpa [did] using h); simp [did, this], fun h => by have := x3 (by simpa [did] using h); simp [did, this], fun h => by have := x4 (by simpa [did] using h); simp [did, this], fun h => by have := x5 (by simpa [did] using h); simp [did, this], fun h => by have := x6 (by simpa [did] using h); simp [did, this], ⟨fun _ => hT, fun h => by simp [did, hl] at h⟩⟩
        · have hl : d 12 = false := by
            cases h : d 12
            · rfl
            · have := x6 h; simp [hd] at this
          replace hT := hT.1 hl
          unfold OpSteps
          simp [go_sem, evS, f1]
          exact ⟨fun h => by simpa [sput] using h0 (by simpa [did] using h), fun h => by simpa [sput] using h1 (by simpa [did] using h), fun h => by simpa [sput] using h2 (by simpa [did] using h), fun h => by simpa [sput] using h3 (by simpa [did] using h), fun h => by simpa [sput] using h4 (by simpa [did] using h), fun _ => by simp [sput], fun h => by simpa [sput] using h6 (by simpa [did] using h), fun h => by simpa [sput] using h7 (by simpa [did] using h), fun h => by simpa [sput] using h8 (by simpa [did] using h), fun h => by simpa [sput] using h9 (by simpa [did] using h), fun h => by simpa [sput] using h10 (by simpa [did] using h), fun h => by simpa [sput] using h11 (by simpa [did] using h), fun h => by have := x0 (by simpa [did] using h); simp [did, this], fun h => by have := x1 (by simpa [did] using h); simp [did, this], fun h => by have := x2 (by simpa [did] using h); simp [did, this], fun h => by have := x3 (by simpa [did] using h); simp [did, this], fun h => by have := x4 (by simpa [did] using h); simp [did, this], fun h => by have := x5 (by simpa [did] using h); simp [did, this], fun h => by have := x6 (by simpa [did] using h); simp [did, this], ⟨fun _ => hT, fun h => by simp [did, hl] at h⟩⟩
        · have hl : d 12 = false := by
            cases h : d 12
            · rfl
            · have := x6 h; simp [hd] at this
          replace hT := hT.1 hl
          unfold OpSteps
          simp [go_sem, evS, f5]
          exact ⟨fun h => by simpa [sput] using h0 (by simpa [did] using h), fun h => by simpa [sput] using h1 (by simpa [did] using h), fun h => by simpa [sput] using h2 (by simpa [did] using h), fun h => by simpa [sput] using h3 (by simpa [did] using h), fun h => by simpa [sput] using h4 (by simpa [did] using h), fun h => by simpa [sput] using h5 (by simpa [did] using h), fun _ => by simp [sput], fun h => by simpa [sput] using h7 (by simpa [did] using h), fun h => by simpa [sput] using h8 (by simpa [did] using h), fun h => by simpa [sput] using h9 (by simpa [did] using h), fun h => by simpa [sput] using h10 (by simpa [did] using h), fun h => by simpa [sput] using h11 (by simpa [did] using h), fun h => by have := x0 (by simpa [did] using h); simp [did, this], fun h => by have := x1 (by simpa [did] using h); simp [did, this], fun h => by have := x2 (by simpa [did] using h); simp [did, this], fun h => by have := x3 (by simpa [did] using h); simp [did, this], fun h => by have := x4 (by simpa [did] using h); simp [did, this], fun h => by have := x5 (by simpa [did] using h); simp [did, this], fun h => by have := x6 (by simpa [did] using h); simp [did, this], ⟨fun _ => hT, fun h => by simp [did, hl] at h⟩⟩
        · have hl : d 12 = false := by
            cases h : d 12
            · rfl
            · have := x6 h; simp [hd] at this
          replace hT := hT.1 hl
          have fz5 := h5 (by simp [hdep])
          have fz6 := h6 (by simp [hdep])
          unfold OpSteps
          simp [go_sem, evS, fz5, fz6, hs2, hs2']
          exact ⟨fun h => by simpa [sput] using h0 (by simpa [did] using h), fun h => by simpa [sput] using h1 (by simpa [did] using h), fun h => by simpa [sput] using h2 (by simpa [did] using h), fun h => by simpa [sput] using h3 (by simpa [did] using h), fun h => by simpa [sput] using h4 (by simpa [did] using h), fun h => by simpa [sput] using h5 (by simpa [did] using h), fun h => by simpa [sput] using h6 (by simpa [did] using h), fun _ => by simp [sput], fun h => by simpa [sput] using h8 (by simpa [did] using h), fun h => by simpa [sput] using h9 (by simpa [did] using h), fun h => by simpa [sput] using h10 (by simpa [did] using h), fun h => by simpa [sput] using h11 (by simpa [did] using h), fun h => by have := x0 (by simpa [did] using h); simp [did, this], fun h => by have := x1 (by simpa [did] using h); simp [did, this], fun _ => by simp [did, hdep], fun h => by have := x3 (by simpa [did] using h); simp [did, this], fun h => by have := x4 (by simpa [did] using h); simp [did, this], fun h => by have := x5 (by simpa [did] using h); simp [did, this], fun h => by have := x6 (by simpa [did] using h); simp [did, this], ⟨fun _ => hT, fun h => by simp [did, hl] at h⟩⟩
        · have hl : d 12 = false := by
            cases h : d 12
            · rfl
            · have := x6 h; simp [hd] at this
          replace hT := hT.1 hl
          have fz4 := h4 (by simp [hdep])
          have fz7 := h7 (by simp [hdep])
          unfold OpSteps
          simp [go_sem, evS, fz4, fz7]
          refine (HDt.out W (below_nx HBq.out hT)).mono ?_
          rintro e W' ⟨v9, rfl, hv, hb⟩
          refine ⟨_, rfl, ?_⟩
          exact ⟨fun h => by simpa [sput] using h0 (by simpa [did] using h), fun h => by simpa [sput] using (h1 (by simpa [did] using h)).below hb, fun h => by simpa [sput] using h2 (by simpa [did] using h), fun h => by simpa [sput] using h3 (by simpa [did] using h), fun h => by simpa [sput] using h4 (by simpa [did] using h), fun h => by simpa [sput] using h5 (by simpa [did] using h), fun h => by simpa [sput] using h6 (by simpa [did] using h), fun h => by simpa [sput] using h7 (by simpa [did] using h), fun _ => by simpa [sput] using hv, fun h => by simpa [sput] using (h9 (by simpa [did] using h)).below hb, fun h => by simpa [sput] using (h10 (by simpa [did] using h)).below hb, fun h => by simpa [sput] using (h11 (by simpa [did] using h)).below hb, fun h => by have := x0 (by simpa [did] using h); simp [did, this], fun h => by have := x1 (by simpa [did] using h); simp [did, this], fun h => by have := x2 (by simpa [did] using h); simp [did, this], fun _ => by have y4 := x1 (by simp [hdep]); have y7 := x2 (by simp [hdep]); simp [did, hdep, y4, y7], fun h => by have := x4 (by simpa [did] using h); simp [did, this], fun h => by have := x5 (by simpa [did] using h); simp [did, this], fun h => by have := x6 (by simpa [did] using h); simp [did, this], ⟨fun _ => below_nx hT hb, fun h => by simp [did, hl] at h⟩⟩
        · have hl : d 12 = false := by
            cases h : d 12
            · rfl
            · have := x6 h; simp [hd] at this
          replace hT := hT.1 hl
          have fz1 := h1 (by simp [hdep])
          have fz8 := h8 (by simp [hdep])
          unfold OpSteps
          simp [go_sem, evS, fz1, fz8]
          refine (rsub_v fz1 fz8 HFt.out.1 HFt.out.2.1).mono ?_
          rintro e W' ⟨v9, rfl, hv, hb⟩
          refine ⟨_, rfl, ?_⟩
          exact ⟨fun h => by simpa [sput] using h0 (by simpa [did] using h), fun h => by simpa [sput] using (h1 (by simpa [did] using h)).below hb, fun h => by simpa [sput] using h2 (by simpa [did] using h), fun h => by simpa [sput] using h3 (by simpa [did] using h), fun h => by simpa [sput] using h4 (by simpa [did] using h), fun h => by simpa [sput] using h5 (by simpa [did] using h), fun h => by simpa [sput] using h6 (by simpa [did] using h), fun h => by simpa [sput] using h7 (by simpa [did] using h), fun h => by simpa [sput] using (h8 (by simpa [did] using h)).below hb, fun _ => by simpa [sput] using hv, fun h => by simpa [sput] using (h10 (by simpa [did] using h)).below hb, fun h => by simpa [sput] using (h11 (by simpa [did] using h)).below hb, fun h => by have := x0 (by simpa [did] using h); simp [did, this], fun h => by have := x1 (by simpa [did] using h); simp [did, this], fun h => by have := x2 (by simpa [did] using h); simp [did, this], fun h => by have := x3 (by simpa [did] using h); simp [did, this], fun _ => by have y1 := x0 (by simp [hdep]); have y8 := x3 (by simp [hdep]); simp [did, hdep, y1, y8], fun h => by have := x5 (by simpa [did] using h); simp [did, this], fun h => by have := x6 (by simpa [did] using h); simp [did, this], ⟨fun _ => below_nx hT hb, fun h => by simp [did, hl] at h⟩⟩
        · have hl : d 12 = false := by
            cases h : d 12
            · rfl
            · have := x6 h; simp [hd] at this
          replace hT := hT.1 hl
          have fz9 := h9 (by simp [hdep])
          unfold OpSteps
          simp [go_sem, evS, fz9]
          refine (rabs_v fz9).mono ?_
          rintro e W' ⟨v9, rfl, hv, hb⟩
          refine ⟨_, rfl, ?_⟩
          exact ⟨fun h => by simpa [sput] using h0 (by simpa [did] using h), fun h => by simpa [sput] using (h1 (by simpa [did] using h)).below hb, fun h => by simpa [sput] using h2 (by simpa [did] using h), fun h => by simpa [sput] using h3 (by simpa [did] using h), fun h => by simpa [sput] using h4 (by simpa [did] using h), fun h => by simpa [sput] using h5 (by simpa [did] using h), fun h => by simpa [sput] using h6 (by simpa [did] using h), fun h => by simpa [sput] using h7 (by simpa [did] using h), fun h => by simpa [sput] using (h8 (by simpa [did] using h)).below hb, fun h => by simpa [sput] using (h9 (by simpa [did] using h)).below hb, fun _ => by simpa [sput] using hv, fun h => by simpa [sput] using (h11 (by simpa [did] using h)).below hb, fun h => by have := x0 (by simpa [did] using h); simp [did, this], fun h => by have := x1 (by simpa [did] using h); simp [did, this], fun h => by have := x2 (by simpa [did] using h); simp [did, this], fun h => by have := x3 (by simpa [did] using h); simp [did, this], fun h => by have := x4 (by simpa [did] using h); simp [did, this], fun _ => by have y9 := x4 (by simp [hdep]); simp [did, hdep, y9], fun h => by have := x6 (by simpa [did] using h); simp [did, this], ⟨fun _ => below_nx hT hb, fun h => by simp [did, hl] at h⟩⟩
        · have hl : d 12 = false := by
            cases h : d 12
            · rfl
            · have := x6 h; simp [hd] at this
          replace hT := hT.1 hl
          unfold OpSteps
          simp [go_sem, evS]
          exact ⟨fun h => by simpa [sput] using h0 (by simpa [did] using h), fun h => by simpa [sput] using (h1 (by simpa [did] using h)).below below_one, fun h => by simpa [sput] using h2 (by simpa [did] using h), fun h => by simpa [sput] using h3 (by simpa [did] using h), fun h => by simpa [sput] using h4 (by simpa [did] using h), fun h => by simpa [sput] using h5 (by simpa [did] using h), fun h => by simpa [sput] using h6 (by simpa [did] using h), fun h => by simpa [sput] using h7 (by simpa [did] using h), fun h => by simpa [sput] using (h8 (by simpa [did] using h)).below below_one, fun h => by simpa [sput] using (h9 (by simpa [did] using h)).below below_one, fun h => by simpa [sput] using (h10 (by simpa [did] using h)).below below_one, fun _ => ⟨W.heap.size, _, _, _, by simp [sput], Blk.new W _ _, hT.size⟩, fun h => by have := x0 (by simpa [did] using h); simp [did, this], fun h => by have := x1 (by simpa [did] using h); simp [did, this], fun h => by have := x2 (by simpa [did] using h); simp [did, this], fun h => by have := x3 (by simpa [did] using h); simp [did, this], fun h => by have := x4 (by simpa [did] using h); simp [did, this], fun h => by have := x5 (by simpa [did] using h); simp [did, this], fun h => by have := x6 (by simpa [did] using h); simp [did, this], ⟨fun _ => below_al hT, fun h => by simp [did, hl] at h⟩⟩
        · have fz11 := h11 (by simp [hdep])
          have fz10 := h10 (by simp [hdep])
          unfold OpSteps
          replace hT := hT.1 hd
          obtain ⟨g9, z0, z1, z2, gp, hB9, hlo⟩ := fz11
          obtain ⟨ng, A9, n9, c9, E9, L9, gv, gR, gN, gd⟩ := fz10
          have fr0 := hB9.frozen 0
          have fr1 := hB9.frozen 1
          have fr2 := hB9.frozen 2
          obtain ⟨k0, k1, k2⟩ := cells3 hB9
          simp [go_sem, evS, gp, gv, fr0, fr1, fr2, k0, k1, k2]
          exact ⟨fun h => by simpa [sput] using h0 (by simpa [did] using h), fun h => by simpa [sput] using ((((h1 (by simpa [did] using h)).far hB9 (by decide) 0 _).far (hB9.set_ 0 _) (by decide) 1 _).far ((hB9.set_ 0 _).set_ 1 _) (by decide) 2 _), fun h => by simpa [sput] using h2 (by simpa [did] using h), fun h => by simpa [sput] using h3 (by simpa [did] using h), fun h => by simpa [sput] using h4 (by simpa [did] using h), fun h => by simpa [sput] using h5 (by simpa [did] using h), fun h => by simpa [sput] using h6 (by simpa [did] using h), fun h => by simpa [sput] using h7 (by simpa [did] using h), fun h => by simpa [sput] using ((((h8 (by simpa [did] using h)).far hB9 (by decide) 0 _).far (hB9.set_ 0 _) (by decide) 1 _).far ((hB9.set_ 0 _).set_ 1 _) (by decide) 2 _), fun h => by simpa [sput] using ((((h9 (by simpa [did] using h)).far hB9 (by decide) 0 _).far (hB9.set_ 0 _) (by decide) 1 _).far ((hB9.set_ 0 _).set_ 1 _) (by decide) 2 _), fun h => by simpa [sput] using ((((h10 (by simpa [did] using h)).far hB9 (by decide) 0 _).far (hB9.set_ 0 _) (by decide) 1 _).far ((hB9.set_ 0 _).set_ 1 _) (by decide) 2 _), fun h => ⟨g9, _, _, _, by simpa [sput] using gp, Blk.store3 hB9 _ _ _, hlo⟩, fun h => by have := x0 (by simpa [did] using h); simp [did, this], fun h => by have := x1 (by simpa [did] using h); simp [did, this], fun h => by have := x2 (by simpa [did] using h); simp [did, this], fun h => by have := x3 (by simpa [did] using h); simp [did, this], fun h => by have := x4 (by simpa [did] using h); simp [did, this], fun h => by have := x5 (by simpa [did] using h); simp [did, this], fun _ => by have y10 := x5 (by simp [hdep]); simp [did, hdep, y10], ⟨fun h => by simp [did] at h, fun _ => ⟨⟨g9, by simpa [sput] using gp, bx_store hB9 gR gN gd, hlo⟩, (((hT.setCell (p := ⟨g9, 0, none⟩) hlo _).setCell (p := ⟨g9, 1, none⟩) hlo _).setCell (p := ⟨g9, 2, none⟩) hlo _)⟩⟩⟩
      intro d s W hJ hd
      obtain ⟨h0, h1, h2, h3, h4, h5, h6, h7, h8, h9, h10, h11, x0, x1, x2, x3, x4, x5, x6, hT⟩ := hJ
      obtain ⟨⟨g1, hg1, hBx, hlo⟩, hBl⟩ := hT.2 (hd 12 (by decide))
      have HX1 := Lib.hid hBx
      have HG1 := Lib.hid hlo
      have HBw := Lib.hid (below_nx HBq.out hBl)
      have HPw := Lib.hid (HRp.out.below hBl)
      have HQw := Lib.hid (HRq.out.below hBl)
      clear h0 h1 h2 h3 h4 h5 h6 h7 h8 h9 h10 h11 x0 x1 x2 x3 x4 x5 x6 hT hd hBx hlo hBl
      simp [setAll, hg1]
      clear hg1
      generalize s 77 = s77
      generalize s 78 = s78
      generalize s 79 = s79
      generalize s 80 = s80
      generalize s 81 = s81
      generalize s 82 = s82
      generalize s 83 = s83
      generalize s 84 = s84
      generalize s 85 = s85
      generalize s 86 = s86
      generalize s 87 = s87
      generalize s 11 = s11
      generalize W = wa at *
      go_wp2_with fail
      refine (HPQ.out _ _ _ _ _ HPw.out HQw.out).mono ?_
      rintro e wb ⟨vHA1, rfl, hv, hb⟩
      have HA1 := Lib.hid hv
      have HX1 := Lib.hid (HX1.out.below hb)
      have HBw := Lib.hid (below_nx HBw.out hb)
      have HPw := Lib.hid (HPw.out.below hb)
      have HQw := Lib.hid (HQw.out.below hb)
      clear hv hb
      go_wp2_with fail
      refine (rshift_v (-52) (by omega) HA1.out HFt.out.2.2.2.1).mono ?_
      rintro e wc ⟨vHA2, rfl, hv, hb⟩
      have HA2 := Lib.hid hv
      have HX1 := Lib.hid (HX1.out.below hb)
      have HBw := Lib.hid (below_nx HBw.out hb)
      have HPw := Lib.hid (HPw.out.below hb)
      have HQw := Lib.hid (HQw.out.below hb)
      clear hv hb
      go_wp2_with fail
      refine (rint_v 1 _ (by omega) (by omega)).mono ?_
      rintro e wd ⟨vHA3, rfl, hv, hb⟩
      have HA3 := Lib.hid hv
      have HX1 := Lib.hid (HX1.out.below hb)
      have HBw := Lib.hid (below_nx HBw.out hb)
      have HPw := Lib.hid (HPw.out.below hb)
      have HQw := Lib.hid (HQw.out.below hb)
      have HA2 := Lib.hid (HA2.out.below hb)
      clear hv hb
      go_wp2_with fail
      refine (rshift_v (-1074) (by omega) HA3.out HFt.out.2.2.2.2.2.1).mono ?_
      rintro e we ⟨vHA4, rfl, hv, hb⟩
      have HA4 := Lib.hid hv
      have HX1 := Lib.hid (HX1.out.below hb)
      have HBw := Lib.hid (below_nx HBw.out hb)
      have HPw := Lib.hid (HPw.out.below hb)
      have HQw := Lib.hid (HQw.out.below hb)
      have HA2 := Lib.hid (HA2.out.below hb)
      clear hv hb
      go_wp2_with fail
      refine (radd_v HA2.out HA4.out HFt.out.2.2.2.2.1 HFt.out.2.2.2.2.2.2.1).mono ?_
      rintro e wf ⟨vHA5, rfl, hv, hb⟩
      have HA5 := Lib.hid hv
      have HX1 := Lib.hid (HX1.out.below hb)
      have HBw := Lib.hid (below_nx HBw.out hb)
      have HPw := Lib.hid (HPw.out.below hb)
      have HQw := Lib.hid (HQw.out.below hb)
      clear hv hb
      go_wp2_with fail
      refine (rint_v (N : Int) _ (by have := HN.out; omega) (by have := HN.out; omega)).mono ?_
      rintro e wg ⟨vHA6, rfl, hv, hb⟩
      have HA6 := Lib.hid hv
      have HX1 := Lib.hid (HX1.out.below hb)
      have HBw := Lib.hid (below_nx HBw.out hb)
      have HPw := Lib.hid (HPw.out.below hb)
      have HQw := Lib.hid (HQw.out.below hb)
      have HA5 := Lib.hid (HA5.out.below hb)
      clear hv hb
      go_wp2_with fail
      refine (rmul_v HA5.out HA6.out HFt.out.2.2.2.2.2.2.2.1 HFt.out.2.2.2.2.2.2.2.2.1).mono ?_
      rintro e wh ⟨vHA7, rfl, hv, hb⟩
      have HA7 := Lib.hid hv
      have HX1 := Lib.hid (HX1.out.below hb)
      have HBw := Lib.hid (below_nx HBw.out hb)
      have HPw := Lib.hid (HPw.out.below hb)
      have HQw := Lib.hid (HQw.out.below hb)
      clear hv hb
      obtain ⟨ng9, A9, n9, c9, E9, L9, rfl, hR9, hN9, hd9⟩ := HA7.out
      have HV2 := Lib.hid (show DV (wh.alloc (.cells #[.bool ng9, .slice A9 n9 c9, .int .i64 E9] 34)) (.agg #[.bool ng9, .slice A9 n9 c9, .int .i64 E9]) _ from ⟨ng9, A9, n9, c9, E9, L9, rfl, hR9.below below_one, hN9, hd9⟩)
      obtain ⟨ng8, A8, n8, c8, E8, L8, hB8, hR8, hN8, hd8⟩ := HX1.out.below (below_one (o := (.cells #[.bool ng9, .slice A9 n9 c9, .int .i64 E9] 34)))
      have HV1 := Lib.hid (show DV (wh.alloc (.cells #[.bool ng9, .slice A9 n9 c9, .int .i64 E9] 34)) (.agg #[.bool ng8, .slice A8 n8 c8, .int .i64 E8]) _ from ⟨ng8, A8, n8, c8, E8, L8, rfl, hR8, hN8, hd8⟩)
      have HBz := Lib.hid (below_al HBw.out (o := (.cells #[.bool ng9, .slice A9 n9 c9, .int .i64 E9] 34)))
      obtain ⟨k0, k1, k2⟩ := cells3 hB8
      obtain ⟨m0, m1, m2⟩ := cells3 (Blk.new wh 34 #[.bool ng9, .slice A9 n9 c9, .int .i64 E9])
      obtain ⟨Z, hZ, hZ0⟩ := HZ.out
      have HZ1 := Lib.hid hZ
      have hsg : decide (Z.sign ≤ 0) = true := by
        have : Z.sign ≤ 0 := by
          rcases Int.lt_trichotomy Z 0 with h | h | h
          · rw [Int.sign_eq_neg_one_of_neg h]; omega
          · subst h; decide
          · omega
        simpa using this
      clear hB8 hR8 hN8 hd8 hR9 hN9 hd9 hZ hZ0
      go_wp2_with fail
      refine (rcmp_v HV1.out HV2.out HFt.out.2.2.1 HFt.out.2.2.2.2.2.2.2.2.2 HZ1.out).mono ?_
      rintro e wi ⟨rfl, hb⟩
      have HBi := Lib.hid (below_nx HBz.out hb)
      generalize Z.sign = sg at *
      clear hb k0 k1 k2 m0 m1 m2
      go_wp2_with fail
      refine (awake5_any _).mono ?_
      rintro e wj ⟨rfl, hb⟩
      have HBj := Lib.hid (below_nx HBi.out hb)
      clear hb
      go_wp2_with fail
      go_ret
      exact ⟨rfl, HBj.out⟩

theorem sumsClose_walk (A : Option Addr) (c : Nat) (l : List Nat) (A' : Option Addr) (c' : Nat) (l' : List Nat) (w : World) (hA : Row w A (f64s l)) (hW : Wds l) (hA' : Row w A' (f64s l')) (hW' : Wds l') (hc : l.length ≤ c) (hc' : l'.length ≤ c') :
    Calls Try.prog 3 #[.slice A l.length c, .slice A' l'.length c'] w fun e w' => e = .returned (.bool true) ∧ Below w.heap.size w w' := by
  by_cases h1 : 60 < l.length
  · exact sumsClose_out A _ c l A' _ c' l' w hA hW rfl hA' hW' rfl (.inl h1)
  by_cases h2 : 60 < l'.length
  · exact sumsClose_out A _ c l A' _ c' l' w hA hW rfl hA' hW' rfl (.inr (.inl ⟨by omega, h2⟩))
  cases h3 : l.all Fl.fin
  · exact sumsClose_out A _ c l A' _ c' l' w hA hW rfl hA' hW' rfl (.inr (.inr (.inl ⟨by omega, by omega, h3⟩)))
  cases h4 : l'.all Fl.fin
  · exact sumsClose_out A _ c l A' _ c' l' w hA hW rfl hA' hW' rfl (.inr (.inr (.inr ⟨by omega, by omega, h3, h4⟩)))
  exact sumsClose_ok A _ c l A' _ c' l' w hA hW rfl hA' hW' rfl (by omega) (by omega) hc hc' h3 h4

end Go.Proofs.Ytjjneiidggcfdaa
