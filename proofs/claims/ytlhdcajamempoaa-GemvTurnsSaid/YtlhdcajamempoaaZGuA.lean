/-
Small whole numbers as floats: products and sums are exact. Conditions: what comes out is below 2^53.
-/
import Derived.Test.YtlhdcajamempoaaGba
set_option linter.unusedVariables false
set_option linter.unusedSimpArgs false
namespace Go.Proofs.Ytlhdcajamempoaa
open Go.RowKit

theorem fbin_comes (op : BinOp) (x y : Nat) : Comes op x y (fbin op x y) := by
  unfold fbin Comes
  cases h : floatBits op .f64 x y with
  | some r => exact ⟨fbits_lt h, .inl rfl⟩
  | none => exact ⟨nanw_lt, .inr ⟨rfl, nanw_nan⟩⟩
/-- One, in units of 2^-1074. -/
def PKe (e : Nat) : Nat := 2 ^ e
def PK : Nat := PKe 1074
theorem PKe_eq (e : Nat) : PKe e = 2 ^ e := rfl
theorem PK_eq : ∃ e, e = 1074 ∧ PK = 2 ^ e := by
  obtain ⟨e, he⟩ : ∃ e, e = 1074 := ⟨_, rfl⟩
  refine ⟨e, he, ?_⟩
  rw [← PKe_eq, he]
  rfl
theorem PK_pos : 0 < PK := by
  obtain ⟨e, _, h⟩ := PK_eq
  rw [h]
  exact Nat.two_pow_pos _
theorem rne_exact (q D : Nat) : Fl.rne (q * 2 ^ D) D = q := by
  have hp : 0 < 2 ^ D := Nat.two_pow_pos _
  unfold Fl.rne
  rw [Nat.mul_div_cancel _ hp, Nat.mul_mod_left]
  rw [if_neg (by omega)]
  omega
theorem rnd_exact (z e d : Nat) (hz : z < 9007199254740992) (he : 52 ≤ e) (he2 : e ≤ 1074) : Fl.mag (Fl.rnd (z * 2 ^ (e + d)) d) = z * 2 ^ e ∧ Fl.rnd (z * 2 ^ (e + d)) d < Fl.INF := by
  by_cases h0 : z = 0
  · subst h0
    rw [Nat.zero_mul, Nat.zero_mul, Fl.rnd_zero, Fl.mag_zero]
    exact ⟨rfl, by unfold Fl.INF; omega⟩
  have hl : z.log2 < 53 := (Nat.log2_lt h0).2 hz
  have hlog := Fl.log2_mul z (e + d) h0
  have hD : d + ((z * 2 ^ (e + d)).log2 - (d + 52)) = d + (z.log2 + e - 52) := by rw [hlog]; omega
  have hT : (z * 2 ^ (e + d)).log2 - (d + 52) = z.log2 + e - 52 := by rw [hlog]; omega
  have hN : z * 2 ^ (e + d) = z * 2 ^ (52 - z.log2) * 2 ^ (d + (z.log2 + e - 52)) := by
    rw [Nat.mul_assoc, ← Nat.pow_add]
    congr 2
    omega
  have hr : Fl.rne (z * 2 ^ (e + d)) (d + (z.log2 + e - 52)) = z * 2 ^ (52 - z.log2) := by rw [hN]; exact rne_exact _ _
  constructor
  · rw [Fl.mag_rnd, hT, hr, Nat.mul_assoc, ← Nat.pow_add]
    congr 2
    omega
  · unfold Fl.rnd
    rw [hT, hr]
    have h1 : z * 2 ^ (52 - z.log2) < 9007199254740992 := by
      have h2 : z < 2 ^ (z.log2 + 1) := Nat.lt_log2_self
      have h3 : z * 2 ^ (52 - z.log2) < 2 ^ (z.log2 + 1) * 2 ^ (52 - z.log2) := Nat.mul_lt_mul_of_pos_right h2 (Nat.two_pow_pos _)
      rw [← Nat.pow_add, show z.log2 + 1 + (52 - z.log2) = 53 by omega] at h3
      exact h3
    unfold Fl.INF
    have h4 : z.log2 + e - 52 ≤ 1074 := by omega
    generalize z * 2 ^ (52 - z.log2) = q at *
    generalize z.log2 + e - 52 = t at *
    omega
/-- The word is the whole number z. -/
def EX (r : Nat) (z : Int) : Prop := r < 18446744073709551616 ∧ Fl.rung r < Fl.INF ∧ Fl.val r = z * (PK : Int)
theorem EX.fin {r : Nat} {z : Int} (h : EX r z) : Fl.rung r < Fl.INF := h.2.1
theorem EX.nan {r : Nat} {z : Int} (h : EX r z) : Fl.nan r = false := by
  have := h.2.1
  unfold Fl.nan
  exact decide_eq_false (by omega)
theorem val_abs (r : Nat) : (Fl.val r).natAbs = Fl.mag (Fl.rung r) := by unfold Fl.val; split <;> omega
theorem EX.mag {r : Nat} {z : Int} (h : EX r z) : Fl.mag (Fl.rung r) = z.natAbs * PK := by
  rw [← val_abs, h.2.2, Int.natAbs_mul, Int.natAbs_natCast]
theorem EX.sg {r : Nat} {z : Int} (h : EX r z) (hz : z ≠ 0) : Fl.sg r = decide (z < 0) := by
  have h1 := h.2.2
  have hp := PK_pos
  have hm : Fl.mag (Fl.rung r) ≠ 0 := by
    rw [h.mag]
    exact Nat.mul_ne_zero (by omega) (by omega)
  unfold Fl.val at h1
  cases hs : Fl.sg r
  · rw [hs] at h1
    have h2 : ((Fl.mag (Fl.rung r) : Nat) : Int) = z * (PK : Int) := by simpa using h1
    have : ¬ z < 0 := fun hn => by
      have : z * (PK : Int) < 0 := Int.mul_neg_of_neg_of_pos hn (by omega)
      omega
    simp [this]
  · rw [hs] at h1
    have h2 : -((Fl.mag (Fl.rung r) : Nat) : Int) = z * (PK : Int) := by simpa using h1
    have : z < 0 := by
      rcases Int.lt_or_le z 0 with hn | hn
      · exact hn
      · exfalso
        have : 0 ≤ z * (PK : Int) := Int.mul_nonneg hn (by omega)
        omega
    simp [this]
theorem wd_ex (s : Bool) (z : Int) {r : Nat} (hr : r < Fl.INF) (hm : Fl.mag r = z.natAbs * PK) (hs : z ≠ 0 → s = decide (z < 0)) : EX (Fl.wd s r) z := by
  have hr2 : r < 9223372036854775808 := by unfold Fl.INF at hr; omega
  have hrung : Fl.rung (Fl.wd s r) = r := by unfold Fl.rung Fl.wd; split <;> omega
  refine ⟨by unfold Fl.wd; split <;> omega, by rw [hrung]; exact hr, ?_⟩
  rw [Fl.val_wd s hr2, hm]
  by_cases h0 : z = 0
  · subst h0; simp
  · rw [hs h0]
    have e : ((z.natAbs * PK : Nat) : Int) = (z.natAbs : Int) * (PK : Int) := by simp
    rw [e]
    by_cases hn : z < 0
    · have h2 : (z.natAbs : Int) = -z := by omega
      rw [h2]; simp [hn, Int.neg_mul]
    · have h2 : (z.natAbs : Int) = z := by omega
      rw [h2]; simp [hn]
theorem EX.mul {x y r : Nat} {a b : Int} (hx : EX x a) (hy : EX y b) (hb : (a * b).natAbs < 9007199254740992) (h : Comes .mul x y r) : EX r (a * b) := by
  obtain ⟨e, he, hK⟩ := PK_eq
  have h1 : Ieee.double.mul x y = some (Fl.wd (Fl.sg x ^^ Fl.sg y) (Fl.cap (Fl.rnd (Fl.mag (Fl.rung x) * Fl.mag (Fl.rung y)) e))) := by
    rw [he]; exact Fl.mul_fin hx.2.1 hy.2.1
  have hN : Fl.mag (Fl.rung x) * Fl.mag (Fl.rung y) = (a * b).natAbs * 2 ^ (e + e) := by
    rw [hx.mag, hy.mag, Int.natAbs_mul, Nat.pow_add, hK]
    generalize 2 ^ e = p
    rw [Nat.mul_mul_mul_comm]
  rw [hN] at h1
  obtain ⟨h2, h3⟩ := rnd_exact (a * b).natAbs e e hb (by rw [he]; decide) (Nat.le_of_eq he)
  rw [← hK] at h2
  generalize Fl.rnd ((a * b).natAbs * 2 ^ (e + e)) e = q at *
  have hc : Fl.cap q = q := by unfold Fl.cap; omega
  rw [hc] at h1
  have h4 : r = Fl.wd (Fl.sg x ^^ Fl.sg y) q := by
    have h5 : floatBits .mul .f64 x y = some (Fl.wd (Fl.sg x ^^ Fl.sg y) q) := h1
    rcases h.2 with h6 | ⟨h6, _⟩
    · exact (Option.some.inj (h5.symm.trans h6)).symm
    · exact absurd (h5.symm.trans h6) (by simp)
  rw [h4]
  refine wd_ex _ _ h3 h2 fun hz => ?_
  have ha : a ≠ 0 := fun e => hz (by rw [e, Int.zero_mul])
  have hb0 : b ≠ 0 := fun e => hz (by rw [e, Int.mul_zero])
  rw [hx.sg ha, hy.sg hb0]
  rcases Int.lt_or_lt_of_ne ha with h7 | h7 <;> rcases Int.lt_or_lt_of_ne hb0 with h8 | h8
  · have : 0 < a * b := Int.mul_pos_of_neg_of_neg h7 h8
    have e1 : ¬ a * b < 0 := by omega
    simp [h7, h8, e1]
  · have : a * b < 0 := Int.mul_neg_of_neg_of_pos h7 h8
    have e1 : ¬ b < 0 := by omega
    simp [h7, this, e1]
  · have : a * b < 0 := Int.mul_neg_of_pos_of_neg h7 h8
    have e1 : ¬ a < 0 := by omega
    simp [h8, this, e1]
  · have : 0 < a * b := Int.mul_pos h7 h8
    have e1 : ¬ a * b < 0 := by omega
    have e2 : ¬ a < 0 := by omega
    have e3 : ¬ b < 0 := by omega
    simp [e1, e2, e3]
theorem EX.add {x y r : Nat} {a b : Int} (hx : EX x a) (hy : EX y b) (hb : (a + b).natAbs < 9007199254740992) (h : Comes .add x y r) : EX r (a + b) := by
  obtain ⟨s, h1, hs⟩ := Fl.add_fin hx.2.1 hy.2.1
  have hV : Fl.val x + Fl.val y = (a + b) * (PK : Int) := by rw [hx.2.2, hy.2.2, Int.add_mul]
  rw [hV] at h1 hs
  obtain ⟨e, he, hK⟩ := PK_eq
  have hN : ((a + b) * (PK : Int)).natAbs = (a + b).natAbs * 2 ^ (e + 0) := by
    rw [Int.natAbs_mul, Int.natAbs_natCast, hK, Nat.add_zero]
  rw [hN] at h1
  obtain ⟨h2, h3⟩ := rnd_exact (a + b).natAbs e 0 hb (by rw [he]; decide) (Nat.le_of_eq he)
  rw [← hK] at h2
  generalize Fl.rnd ((a + b).natAbs * 2 ^ (e + 0)) 0 = q at *
  have hc : Fl.cap q = q := by unfold Fl.cap; omega
  rw [hc] at h1
  have h4 : r = Fl.wd s q := by
    have h5 : floatBits .add .f64 x y = some (Fl.wd s q) := h1
    rcases h.2 with h6 | ⟨h6, _⟩
    · exact (Option.some.inj (h5.symm.trans h6)).symm
    · exact absurd (h5.symm.trans h6) (by simp)
  rw [h4]
  refine wd_ex _ _ h3 h2 fun hz => ?_
  have hp := PK_pos
  have h8 : (a + b) * (PK : Int) ≠ 0 := Int.mul_ne_zero hz (by omega)
  rw [hs h8]
  by_cases hn : a + b < 0
  · have h9 : (a + b) * (PK : Int) < 0 := Int.mul_neg_of_neg_of_pos hn (by omega)
    simp [hn, h9]
  · have h9 : ¬ (a + b) * (PK : Int) < 0 := by
      have : 0 ≤ (a + b) * (PK : Int) := Int.mul_nonneg (by omega) (by omega)
      omega
    simp [hn, h9]
theorem EX.zero : EX 0 0 := ⟨by omega, by decide, by rw [Int.zero_mul]; decide⟩
theorem EX.is_ {r x : Nat} {z : Int} (h : EX x z) (hi : Is r x) : EX r z := by
  rw [hi.eq_of h.nan]; exact h
/-- Two words of one whole number are equal, as floats are. -/
theorem EX.order {r r' : Nat} {z : Int} (h : EX r z) (h' : EX r' z) : (FloatKind.f64.format.order r r' == some .eq) = true := by
  have h1 : Ieee.double.order r r' = some (compare (Fl.val r) (Fl.val r')) := Fl.order_val (Nat.le_of_lt h.2.1) (Nat.le_of_lt h'.2.1)
  have h2 : FloatKind.f64.format.order r r' = some (compare (Fl.val r) (Fl.val r')) := h1
  rw [h2, h.2.2, h'.2.2]
  simp
/-- The sum of the first products. -/
def dotZ (f g : Nat → Int) : Nat → Int
  | 0 => 0
  | k + 1 => dotZ f g k + f k * g k
theorem dotZ_le (f g : Nat → Int) (B : Nat) (hB : ∀ k, (f k * g k).natAbs ≤ B) : ∀ n, (dotZ f g n).natAbs ≤ n * B
  | 0 => by simp [dotZ]
  | n + 1 => by
    have h1 := dotZ_le f g B hB n
    have h2 := hB n
    have h3 : (dotZ f g (n + 1)).natAbs ≤ (dotZ f g n).natAbs + (f n * g n).natAbs := Int.natAbs_add_le _ _
    rw [Nat.add_mul, Nat.one_mul]
    omega
theorem EX.dot {l m : List Nat} {f g : Nat → Int} {B : Nat} (hB : ∀ k, (f k * g k).natAbs ≤ B) (hB2 : 61 * B < 9007199254740992) : ∀ n, n ≤ 60 → (∀ k, k < n → EX (l.getD k 0) (f k) ∧ EX (m.getD k 0) (g k)) → EX (dotF l m n) (dotZ f g n)
  | 0, _, _ => EX.zero
  | n + 1, hn, h => by
    have ih := EX.dot (l := l) (m := m) hB hB2 n (by omega) (fun k hk => h k (by omega))
    obtain ⟨h1, h2⟩ := h n (by omega)
    have hb := hB n
    have hp : EX (fbin .mul (l.getD n 0) (m.getD n 0)) (f n * g n) := by
      have hc : Comes .mul (l.getD n 0) (m.getD n 0) (fbin .mul (l.getD n 0) (m.getD n 0)) := fbin_comes _ _ _
      exact h1.mul h2 (by omega) hc
    have hd := dotZ_le f g B hB (n + 1)
    have hd2 : (n + 1) * B ≤ 61 * B := Nat.mul_le_mul_right _ (by omega)
    have hs : EX (fbin .add (dotF l m n) (fbin .mul (l.getD n 0) (m.getD n 0))) (dotZ f g n + f n * g n) :=
      ih.add hp (by show (dotZ f g (n + 1)).natAbs < _; omega) (fbin_comes _ _ _)
    exact hs
end Go.Proofs.Ytlhdcajamempoaa
