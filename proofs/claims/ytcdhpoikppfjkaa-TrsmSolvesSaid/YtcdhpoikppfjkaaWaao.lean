/-
Rounding keeps the order; scaling up and back; the word above. Conditions: none beyond what each says.
-/
import Derived.Test.YtcdhpoikppfjkaaWaab
import Ieee.Arith
import Derived.Test.YtcdhpoikppfjkaaWaan
namespace Go.Proofs.Ytcdhpoikppfjkaa.Fl

theorem scl_self {b : Nat} (h : rung b < INF) : scl (mag (rung b)) 0 = rung b := by
  have := scl_exact (pm b) (pe b) (pm_lt b) (pm_pe b)
  rw [← rung_parts] at this
  rw [scale_parts, Int.add_zero, this]
  unfold cap; omega

end Go.Proofs.Ytcdhpoikppfjkaa.Fl
/-
What Ieee's rounding comes to, and how far it is off. Conditions: none.
-/
set_option linter.unusedVariables false
namespace Go.Proofs.Ytcdhpoikppfjkaa.Fl
open Ieee

theorem cut_rne (neg : Bool) (n drop : Nat) : Toward.even.cut neg n drop = rne n drop := by
  unfold Toward.cut
  simp only [Nat.shiftLeft_eq, Nat.one_mul]
  by_cases h : drop ≤ n.log2 + 2
  · rw [Nat.min_eq_left h]
    unfold rne
    by_cases h1 : 2 ^ drop < 2 * (n % 2 ^ drop)
    · simp [h1]
    · by_cases h2 : 2 ^ drop = 2 * (n % 2 ^ drop)
      · by_cases h3 : n / 2 ^ drop % 2 = 1
        · simp [← h2, h3]
        · simp [← h2, h3]
      · simp [h1, h2]
  · have hm : min drop (n.log2 + 2) = n.log2 + 2 := by omega
    rw [hm]
    have hlt : n < 2 ^ (n.log2 + 1) := by
      by_cases h0 : n = 0
      · subst h0; exact Nat.two_pow_pos _
      · exact Nat.lt_log2_self
    have h4 : 2 ^ (n.log2 + 2) = 2 * 2 ^ (n.log2 + 1) := by rw [Nat.pow_succ 2 (n.log2 + 1)]; omega
    have h5 : 2 ^ (n.log2 + 2) ≤ 2 ^ drop := Nat.pow_le_pow_right (by omega) (by omega)
    rw [rne_small n drop (by omega)]
    have h6 : n < 2 ^ (n.log2 + 2) := by omega
    rw [Nat.div_eq_of_lt h6, Nat.mod_eq_of_lt h6]
    have h7 : ¬ 2 ^ (n.log2 + 2) < 2 * n := by omega

    simp [h7]
theorem dbl_sign : double.signWeight = 9223372036854775808 := by decide
theorem dbl_binade : double.binade = 4503599627370496 := by decide
theorem dbl_inf : double.infRung = INF := by decide
theorem dbl_word (neg : Bool) (r : Nat) : double.word neg r = wd neg r := by
  unfold Format.word wd
  rw [dbl_sign]
/-- The rung that a number is rounded to, below the lowest place. -/
theorem nearest_low (neg : Bool) (m d : Nat) : double.nearest neg m (-1074 - (d : Int)) = wd neg (cap (rnd m d)) := by
  unfold Format.nearest
  by_cases h0 : m = 0
  · subst h0; rw [rnd_zero, if_pos rfl, dbl_word]; rfl
  rw [if_neg h0]
  have hl : double.leastPlace = -1074 := by decide
  have hf : (double.fractionBits : Int) = 52 := by decide
  simp only [hl, hf]
  have h1 : max (-1074 - (d : Int) + (m.log2 : Int) - 52) (-1074) = -1074 + ((m.log2 - (d + 52) : Nat) : Int) := by omega
  rw [h1]
  have h2 : (-1074 - (d : Int) - (-1074 + ((m.log2 - (d + 52) : Nat) : Int))).toNat = 0 := by omega
  have h3 : (-1074 + ((m.log2 - (d + 52) : Nat) : Int) - (-1074 - (d : Int))).toNat = d + (m.log2 - (d + 52)) := by omega
  have h4 : (-1074 + ((m.log2 - (d + 52) : Nat) : Int) - -1074).toNat = m.log2 - (d + 52) := by omega
  rw [h2, h3, h4, Nat.shiftLeft_zero, cut_rne, dbl_word, dbl_binade, dbl_inf]
  unfold cap rnd
  exact congrArg _ rfl
theorem nearest_high (neg : Bool) (m k : Nat) : double.nearest neg m (-1074 + (k : Int)) = wd neg (cap (rnd (m * 2 ^ k) 0)) := by
  unfold Format.nearest
  by_cases h0 : m = 0
  · subst h0; rw [Nat.zero_mul, rnd_zero, if_pos rfl, dbl_word]; rfl
  rw [if_neg h0]
  have hl : double.leastPlace = -1074 := by decide
  have hf : (double.fractionBits : Int) = 52 := by decide
  simp only [hl, hf]
  have h1 : max (-1074 + (k : Int) + (m.log2 : Int) - 52) (-1074) = -1074 + ((m.log2 + k - 52 : Nat) : Int) := by omega
  rw [h1]
  have hx : rnd (m * 2 ^ k) 0 = (m.log2 + k - 52) * 4503599627370496 + rne (m * 2 ^ k) (m.log2 + k - 52) := by
    unfold rnd
    rw [log2_mul m k h0, Nat.zero_add, Nat.zero_add]
  have h4 : (-1074 + ((m.log2 + k - 52 : Nat) : Int) - -1074).toNat = m.log2 + k - 52 := by omega
  rw [h4, hx, cut_rne]
  have key : rne (m <<< (-1074 + (k : Int) - (-1074 + ((m.log2 + k - 52 : Nat) : Int))).toNat) (-1074 + ((m.log2 + k - 52 : Nat) : Int) - (-1074 + (k : Int))).toNat = rne (m * 2 ^ k) (m.log2 + k - 52) := by
    generalize m.log2 + k - 52 = t
    rw [Nat.shiftLeft_eq]
    by_cases ht : t ≤ k
    · have e1 : (-1074 + (k : Int) - (-1074 + (t : Int))).toNat = k - t := by omega
      have e2 : (-1074 + (t : Int) - (-1074 + (k : Int))).toNat = 0 := by omega
      rw [e1, e2, rne_d0]
      obtain ⟨j, rfl⟩ : ∃ j, k = j + t := ⟨k - t, by omega⟩
      rw [show j + t - t = j by omega, Nat.pow_add, ← Nat.mul_assoc, rne_mul]
    · have e1 : (-1074 + (k : Int) - (-1074 + (t : Int))).toNat = 0 := by omega
      have e2 : (-1074 + (t : Int) - (-1074 + (k : Int))).toNat = t - k := by omega
      rw [e1, e2, Nat.pow_zero, Nat.mul_one]
      have := rne_shift m (t - k) k
      rw [show t - k + k = t by omega] at this
      exact this.symm
  rw [key, dbl_word, dbl_binade, dbl_inf]
  unfold cap
  exact congrArg _ rfl
theorem nearest_scl (neg : Bool) (m : Nat) (p : Int) : double.nearest neg m p = wd neg (scl m (p + 1074)) := by
  unfold scl
  by_cases h : 0 ≤ p + 1074
  · rw [if_pos h]
    have := nearest_high neg m (p + 1074).toNat
    rw [show (-1074 + ((p + 1074).toNat : Int)) = p by omega] at this
    exact this
  · rw [if_neg h]
    have := nearest_low neg m (-(p + 1074)).toNat
    rw [show (-1074 - ((-(p + 1074)).toNat : Int)) = p by omega] at this
    exact this

/-! ### How far it is off. -/
end Go.Proofs.Ytcdhpoikppfjkaa.Fl
/-
Sums and products of finite floats: the exact one, rounded once. Conditions: both are finite.
-/
set_option linter.unusedVariables false
namespace Go.Proofs.Ytcdhpoikppfjkaa.Fl
open Ieee

theorem scl_whole (N : Nat) : scl N 0 = cap (rnd N 0) := by
  unfold scl
  rw [if_pos (Int.le_refl 0)]
  simp
theorem scl_down (N d : Nat) (hd : 0 < d) : scl N (-(d : Int)) = cap (rnd N d) := by
  unfold scl
  rw [if_neg (by omega)]
  congr 2
  omega
theorem mul_fin {x y : Nat} (hx : rung x < INF) (hy : rung y < INF) :
    double.mul x y = some (wd (sg x ^^ sg y) (cap (rnd (mag (rung x) * mag (rung y)) 1074))) := by
  obtain ⟨m, u, e, hm⟩ := read_fin hx
  obtain ⟨n, v, e2, hn⟩ := read_fin hy
  unfold Format.mul
  rw [e, e2]
  simp only [Datum.product, Option.map_some, Format.write]
  have h1 : scl (m * n) (-1074 + (u : Int) + (-1074 + (v : Int)) + 1074) = cap (rnd (mag (rung x) * mag (rung y)) 1074) := by
    rw [← scl_down _ 1074 (by omega), ← hm, ← hn, show m * 2 ^ u * (n * 2 ^ v) = m * n * 2 ^ (u + v) by rw [Nat.pow_add]; simp only [Nat.mul_assoc, Nat.mul_left_comm], scl_shift]
    congr 1
    omega
  rw [nearest_scl, h1]
end Go.Proofs.Ytcdhpoikppfjkaa.Fl
/-
Products block by block: what comes to a number; where blocks begin. Conditions: as each says.
-/
set_option linter.unusedVariables false
set_option linter.unusedSimpArgs false
set_option linter.unnecessarySimpa false
namespace Go.Proofs.Ytcdhpoikppfjkaa
open Go.RowKit

/-- One times a number is the number, infinities too. -/
theorem bk_one {y : Nat} (hy : y < 18446744073709551616) (hn : Fl.nan y = false) : Ieee.double.mul 4607182418800017408 y = some y := by
  obtain ⟨O, hO⟩ : ∃ O, 4607182418800017408 = O := ⟨_, rfl⟩
  have e0 : Fl.rung O < Fl.INF := by rw [← hO]; decide
  have e1 : Fl.rung O = 4607182418800017408 := by rw [← hO]; decide
  have e2 : Fl.sg O = false := by rw [← hO]; decide
  obtain ⟨k, hk⟩ : ∃ k, k = 1074 := ⟨_, rfl⟩
  have e3 : Fl.mag (Fl.rung O) = 2 ^ k := by
    have e4 : 4607182418800017408 / 4503599627370496 - 1 = 1022 := by decide
    have e5 : 4503599627370496 + 4607182418800017408 % 4503599627370496 = 2 ^ 52 := by decide
    obtain ⟨j, hj⟩ : ∃ j, 4607182418800017408 / 4503599627370496 - 1 = j := ⟨_, rfl⟩
    rw [e1]
    unfold Fl.mag
    rw [if_neg (by omega), hj, e5, ← Nat.pow_add, show 52 + j = k by omega]
  rw [hO]
  rcases Nat.lt_trichotomy (Fl.rung y) Fl.INF with h | h | h
  · rw [Fl.mul_fin e0 h, e2, e3, ← hk, Nat.mul_comm]
    have e6 : Fl.rnd (Fl.mag (Fl.rung y) * 2 ^ k) k = Fl.rnd (Fl.mag (Fl.rung y)) 0 := by
      have := Fl.rnd_shift (Fl.mag (Fl.rung y)) 0 k
      rw [Nat.zero_add] at this
      exact this
    have e7 := Fl.scl_self h
    rw [Fl.scl_whole] at e7
    rw [e6, e7, Bool.false_xor, Fl.wd_parts hy]
  · obtain ⟨m, u, e, hm⟩ := Fl.read_fin e0
    have hm0 : ¬ m = 0 := fun e => by
      rw [e3, e, Nat.zero_mul] at hm
      have := Nat.two_pow_pos k
      omega
    unfold Ieee.Format.mul
    rw [e, Fl.read_inf h, e2]
    simp only [Ieee.Datum.product]
    rw [if_neg hm0]
    simp only [Option.map_some, Bool.false_xor, Bool.xor_false, Option.some.injEq]
    show Ieee.double.word (Fl.sg y) Ieee.double.infRung = y
    rw [Fl.dbl_word, Fl.dbl_inf, ← h, Fl.wd_parts hy]
  · exfalso
    have h2 : Fl.nan y = true := decide_eq_true h
    rw [hn] at h2
    cases h2
theorem bk_is_one {y : Nat} (hy : y < 18446744073709551616) : Is (fbin .mul 4607182418800017408 y) y := by
  refine ⟨fbin_lt _ _ _, ?_⟩
  cases hn : Fl.nan y
  · left
    have h : floatBits .mul .f64 4607182418800017408 y = some y := bk_one hy hn
    unfold fbin
    rw [h]; rfl
  · right
    have h : floatBits .mul .f64 4607182418800017408 y = none := fbin_nan_right hn
    unfold fbin
    rw [h]
    exact ⟨nanw_nan, rfl⟩
theorem bk_comes (op : BinOp) (x y : Nat) : Comes op x y (fbin op x y) := by
  unfold fbin Comes
  cases h : floatBits op .f64 x y with
  | some r => exact ⟨fbits_lt h, .inl rfl⟩
  | none => exact ⟨nanw_lt, .inr ⟨rfl, nanw_nan⟩⟩
/-- The number that comes of z, of x's row f and y's column g, up to k of what is summed over. -/
def bkF (a b z : Nat) (f g : Nat → Nat) (k : Nat) : Nat := chnF (begF b z) (fun k => fbin .mul (fbin .mul a (g k)) (f k)) k
/-- What each number is, when kd of what is summed over are done there. -/
def BkP (a b : Nat) (l : List Nat) (o L : Nat) (f g : Nat → Nat → Nat) (kd : Nat → Nat → Nat) (i j r : Nat) : Prop := Is r (bkF a b (l.getD (o + i + j * L) 0) (f i) (g j) (kd i j))
theorem BkP.lt {a b : Nat} {l : List Nat} {o L : Nat} {f g : Nat → Nat → Nat} {kd : Nat → Nat → Nat} {i j r : Nat} (h : BkP a b l o L f g kd i j r) : r < 18446744073709551616 := h.1
theorem Imr.congr {l : List Nat} {o R C L : Nat} {P Q : Nat → Nat → Nat → Prop} {l' : List Nat} (h : Imr l o R C L P l') (hpq : ∀ i, i < R → ∀ j, j < C → ∀ r, P i j r → Q i j r) : Imr l o R C L Q l' :=
  ⟨h.1, fun i hi j hj => hpq i hi j hj _ (h.2.1 i hi j hj), h.2.2⟩
/-- Where block i begins. -/
def bs (C : List Int) (i : Nat) : Nat := (C.getD i 0).toNat
/-- N places, cut into m blocks. -/
structure CutF (C : List Int) (m N : Nat) : Prop where
  zero : bs C 0 = 0
  last : bs C m = N
  cell : ∀ i, C.getD i 0 = (bs C i : Int)
  lt : ∀ i, i < m → bs C i < bs C (i + 1)
  le : ∀ i, bs C i ≤ N
theorem CutF.none : CutF [] 0 0 := ⟨rfl, rfl, fun i => by simp [bs], fun i h => by omega, fun i => by simp [bs]⟩
theorem CutF.ok {N S : Nat} (l : List Int) (hN : 1 ≤ N) : CutF (cuts N S l) ((cuts N S l).length - 1) N := by
  have hc : ∀ i, 0 ≤ (cuts N S l).getD i 0 ∧ (cuts N S l).getD i 0 ≤ N := fun i => cuts_in N i
  have he := cuts_end (S := S) (l := l) hN
  have hr : (cuts N S l).Pairwise (· < ·) := cutsTo_rising N
  have hz : (cuts N S l).getD 0 0 = 0 := cutsTo_zero N
  obtain ⟨h1, h2⟩ := he
  refine ⟨by unfold bs; rw [hz]; rfl, ?_, fun i => ?_, fun i hi => ?_, fun i => ?_⟩
  · have h3 : (cuts N S l).getD ((cuts N S l).length - 1) 0 = N := h1
    unfold bs
    rw [h3]; rfl
  · have := hc i
    unfold bs
    omega
  · have h3 := List.pairwise_iff_getElem.1 hr i (i + 1) (by omega) (by omega) (by omega)
    have h4 := hc i
    have h5 := hc (i + 1)
    unfold bs
    rw [List.getD_eq_getElem?_getD, List.getElem?_eq_getElem (by omega)] at h4 ⊢
    rw [List.getD_eq_getElem?_getD, List.getElem?_eq_getElem (by omega)] at h5 ⊢
    simp only [Option.getD_some] at h4 h5 ⊢
    omega
  · have := hc i
    unfold bs
    omega
theorem CutF.dd {C : List Int} {m N i : Nat} (h : CutF C m N) (hi : i < m) : C.getD (i + 1) 0 - C.getD i 0 = ((bs C (i + 1) - bs C i : Nat) : Int) := by
  have := h.lt i hi
  rw [h.cell, h.cell]
  omega
end Go.Proofs.Ytcdhpoikppfjkaa
