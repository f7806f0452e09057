/-
A sum of products is close to the exact one. Conditions: at most 60 products, and the sum is finite.
-/
import Derived.Test.YtbbgldelebgnfaaUaal
import Derived.Test.YtbbgldelebgnfaaUbaa
import Derived.Test.YtbbgldelebgnfaaZGfC
set_option linter.unusedVariables false
namespace Go.Proofs.Ytbbgldelebgnfaa

theorem fbin_some {op : BinOp} {x y r : Nat} (h : fbin op x y = r) (hr : Fl.rung r < Fl.INF) : floatBits op .f64 x y = some r := by
  unfold fbin at h
  cases hb : floatBits op .f64 x y with
  | some z => rw [hb] at h; exact congrArg some h
  | none =>
    rw [hb] at h
    have h : NANW = r := h
    subst h
    exact absurd hr (by decide)
/-- The exact sum of the first products, in units of 2^-2148. -/
def dotE (l m : List Nat) : Nat → Int
  | 0 => 0
  | k + 1 => dotE l m k + Fl.val (l.getD k 0) * Fl.val (m.getD k 0)
/-- The exact sum of the first products without signs. -/
def dotA (l m : List Nat) : Nat → Nat
  | 0 => 0
  | k + 1 => dotA l m k + (Fl.val (l.getD k 0) * Fl.val (m.getD k 0)).natAbs
theorem dotE_le (l m : List Nat) : ∀ k, (dotE l m k).natAbs ≤ dotA l m k
  | 0 => by simp [dotE]
  | k + 1 => by
    have := dotE_le l m k
    unfold dotE dotA
    generalize Fl.val (l.getD k 0) * Fl.val (m.getD k 0) = P
    omega
theorem close_lin {a b c A P K X Y Z : Nat} (h1 : 4503599627370496 * a ≤ X + Y) (hX : X ≤ 60 * A) (hY : Y ≤ 60 * (4503599627370496 * K)) (hZ : P ≤ Z) (h2 : 9007199254740992 * b ≤ max P (4503599627370496 * K)) (h3 : 9007199254740992 * c ≤ A + a + P + b) :
    4503599627370496 * (a + b + c) ≤ X + A + Z + P + Y + 4503599627370496 * K := by
  omega
theorem dot_close (l m : List Nat) : ∀ n, n ≤ 60 → Fl.rung (dotF l m n) < Fl.INF →
    4503599627370496 * (Fl.val (dotF l m n) * ((2 ^ 1074 : Nat) : Int) - dotE l m n).natAbs ≤ n * (dotA l m n + 4503599627370496 * 2 ^ 1074)
  | 0, _, _ => by
    have h0 : Fl.val (dotF l m 0) = 0 := by unfold dotF; decide
    rw [h0, Int.zero_mul]
    exact Nat.le_trans (show 4503599627370496 * (0 - dotE l m 0).natAbs ≤ 0 by simp [dotE]) (Nat.zero_le _)
  | n + 1, hn, hr => by
    have hs := fbin_some (op := .add) (x := dotF l m n) (y := fbin .mul (l.getD n 0) (m.getD n 0)) rfl hr
    have hs : Ieee.double.add (dotF l m n) (fbin .mul (l.getD n 0) (m.getD n 0)) = some (dotF l m (n + 1)) := hs
    obtain ⟨hfs, hfp⟩ := Fl.add_back hs hr
    have hp := fbin_some (op := .mul) (x := l.getD n 0) (y := m.getD n 0) rfl hfp
    have hp : Ieee.double.mul (l.getD n 0) (m.getD n 0) = some (fbin .mul (l.getD n 0) (m.getD n 0)) := hp
    obtain ⟨hfx, hfy⟩ := Fl.mul_back hp hfp
    have hb := Fl.mul_err hfx hfy hp hfp
    have hc := Fl.add_err hfs hfp hs hr
    have hE : dotE l m (n + 1) = dotE l m n + Fl.val (l.getD n 0) * Fl.val (m.getD n 0) := rfl
    have hA : dotA l m (n + 1) = dotA l m n + (Fl.val (l.getD n 0) * Fl.val (m.getD n 0)).natAbs := rfl
    have hEA := dotE_le l m n
    rw [hE, hA]
    generalize Fl.val (l.getD n 0) * Fl.val (m.getD n 0) = P at *
    by_cases h0 : n = 0
    · subst h0
      have h1 := Fl.add_zero_val hfp hs
      rw [h1, show dotE l m 0 = 0 from rfl, show dotA l m 0 = 0 from rfl]
      generalize Fl.val (fbin .mul (l.getD 0 0) (m.getD 0 0)) * ((2 ^ 1074 : Nat) : Int) = q at *
      generalize 4503599627370496 * 2 ^ 1074 = Y at *
      omega
    · have ih := dot_close l m n (by omega) hfs
      have hK : 0 < 2 ^ 1074 := Nat.two_pow_pos 1074
      generalize Fl.val (dotF l m (n + 1)) = r at *
      generalize Fl.val (dotF l m n) = s at *
      generalize Fl.val (fbin .mul (l.getD n 0) (m.getD n 0)) = p at *
      generalize 2 ^ 1074 = K at *
      generalize dotE l m n = S at *
      generalize dotA l m n = A at *
      have hd : r * (K : Int) - (S + P) = (s * (K : Int) - S) + (p * (K : Int) - P) + (r - (s + p)) * (K : Int) := by
        rw [Int.sub_mul, Int.add_mul]; omega
      have hcK : ((r - (s + p)) * (K : Int)).natAbs = (r - (s + p)).natAbs * K := by rw [Int.natAbs_mul, Int.natAbs_natCast]
      have hsK : ((s + p) * (K : Int)).natAbs = (s + p).natAbs * K := by rw [Int.natAbs_mul, Int.natAbs_natCast]
      have hc2 : 9007199254740992 * ((r - (s + p)) * (K : Int)).natAbs ≤ ((s + p) * (K : Int)).natAbs := by
        rw [hcK, hsK, ← Nat.mul_assoc]
        exact Nat.mul_le_mul_right K hc
      have hsp : (s + p) * (K : Int) = s * (K : Int) + p * (K : Int) := Int.add_mul s p K
      rw [hsp] at hc2
      rw [hd]
      clear hcK hsK hsp hd hs hp hr hfs hfp hfx hfy hE hA hc
      have hX : n * A ≤ 60 * A := Nat.mul_le_mul_right _ (by omega)
      have hY : n * (4503599627370496 * K) ≤ 60 * (4503599627370496 * K) := Nat.mul_le_mul_right _ (by omega)
      have hZ : P.natAbs ≤ n * P.natAbs := Nat.le_mul_of_pos_left _ (by omega)
      rw [Nat.mul_add] at ih
      have eR : (n + 1) * (A + P.natAbs + 4503599627370496 * K) = n * A + A + n * P.natAbs + P.natAbs + n * (4503599627370496 * K) + 4503599627370496 * K := by
        rw [Nat.add_mul, Nat.one_mul, Nat.mul_add, Nat.mul_add]; omega
      rw [eR]
      generalize n * A = X at *
      generalize n * (4503599627370496 * K) = Y at *
      generalize n * P.natAbs = Z at *
      generalize s * (K : Int) = sk at *
      generalize p * (K : Int) = pk at *
      generalize (r - (s + p)) * (K : Int) = ck at *
      have h3 : 9007199254740992 * ck.natAbs ≤ A + (sk - S).natAbs + P.natAbs + (pk - P).natAbs := by omega
      refine Nat.le_trans ?_ (close_lin ih hX hY hZ hb h3)
      omega
end Go.Proofs.Ytbbgldelebgnfaa
/-
Small whole numbers as floats: products and sums are exact. Conditions: what comes out is below 2^53.
-/
set_option linter.unusedVariables false
set_option linter.unusedSimpArgs false
namespace Go.Proofs.Ytbbgldelebgnfaa
open Go.RowKit

theorem fbin_comes (op : BinOp) (x y : Nat) : Comes op x y (fbin op x y) := by
  unfold fbin Comes
  cases h : floatBits op .f64 x y with
  | some r => exact ⟨fbits_lt h, .inl rfl⟩
  | none => exact ⟨nanw_lt, .inr ⟨rfl, nanw_nan⟩⟩
/-- One, in units of 2^-1074. -/
def PKe (e : Nat) : Nat := 2 ^ e
def PK : Nat := PKe 1074
theorem PKe_eq (e : Nat) : PKe e = 2 ^ e := rfl
theorem PK_eq : ∃ e, e = 1074 ∧ PK = 2 ^ e := by
  obtain ⟨e, he⟩ : ∃ e, e = 1074 := ⟨_, rfl⟩
  refine ⟨e, he, ?_⟩
  rw [← PKe_eq, he]
  rfl
theorem PK_pos : 0 < PK := by
  obtain ⟨e, _, h⟩ := PK_eq
  rw [h]
  exact Nat.two_pow_pos _
theorem rne_exact (q D : Nat) : Fl.rne (q * 2 ^ D) D = q := by
  have hp : 0 < 2 ^ D := Nat.two_pow_pos _
  unfold Fl.rne
  rw [Nat.mul_div_cancel _ hp, Nat.mul_mod_left]
  rw [if_neg (by omega)]
  omega
theorem rnd_exact (z e d : Nat) (hz : z < 9007199254740992) (he : 52 ≤ e) (he2 : e ≤ 1074) : Fl.mag (Fl.rnd (z * 2 ^ (e + d)) d) = z * 2 ^ e ∧ Fl.rnd (z * 2 ^ (e + d)) d < Fl.INF := by
  by_cases h0 : z = 0
  · subst h0
    rw [Nat.zero_mul, Nat.zero_mul, Fl.rnd_zero, Fl.mag_zero]
    exact ⟨rfl, by unfold Fl.INF; omega⟩
  have hl : z.log2 < 53 := (Nat.log2_lt h0).2 hz
  have hlog := Fl.log2_mul z (e + d) h0
  have hD : d + ((z * 2 ^ (e + d)).log2 - (d + 52)) = d + (z.log2 + e - 52) := by rw [hlog]; omega
  have hT : (z * 2 ^ (e + d)).log2 - (d + 52) = z.log2 + e - 52 := by rw [hlog]; omega
  have hN : z * 2 ^ (e + d) = z * 2 ^ (52 - z.log2) * 2 ^ (d + (z.log2 + e - 52)) := by
    rw [Nat.mul_assoc, ← Nat.pow_add]
    congr 2
    omega
  have hr : Fl.rne (z * 2 ^ (e + d)) (d + (z.log2 + e - 52)) = z * 2 ^ (52 - z.log2) := by rw [hN]; exact rne_exact _ _
  constructor
  · rw [Fl.mag_rnd, hT, hr, Nat.mul_assoc, ← Nat.pow_add]
    congr 2
    omega
  · unfold Fl.rnd
    rw [hT, hr]
    have h1 : z * 2 ^ (52 - z.log2) < 9007199254740992 := by
      have h2 : z < 2 ^ (z.log2 + 1) := Nat.lt_log2_self
      have h3 : z * 2 ^ (52 - z.log2) < 2 ^ (z.log2 + 1) * 2 ^ (52 - z.log2) := Nat.mul_lt_mul_of_pos_right h2 (Nat.two_pow_pos _)
      rw [← Nat.pow_add, show z.log2 + 1 + (52 - z.log2) = 53 by omega] at h3
      exact h3
    unfold Fl.INF
    have h4 : z.log2 + e - 52 ≤ 1074 := by omega
    generalize z * 2 ^ (52 - z.log2) = q at *
    generalize z.log2 + e - 52 = t at *
    omega
/-- The word is the whole number z. -/
def EX (r : Nat) (z : Int) : Prop := r < 18446744073709551616 ∧ Fl.rung r < Fl.INF ∧ Fl.val r = z * (PK : Int)
theorem EX.fin {r : Nat} {z : Int} (h : EX r z) : Fl.rung r < Fl.INF := h.2.1
theorem EX.nan {r : Nat} {z : Int} (h : EX r z) : Fl.nan r = false := by
  have := h.2.1
  unfold Fl.nan
  exact decide_eq_false (by omega)
theorem val_abs (r : Nat) : (Fl.val r).natAbs = Fl.mag (Fl.rung r) := by unfold Fl.val; split <;> omega
theorem EX.mag {r : Nat} {z : Int} (h : EX r z) : Fl.mag (Fl.rung r) = z.natAbs * PK := by
  rw [← val_abs, h.2.2, Int.natAbs_mul, Int.natAbs_natCast]
theorem EX.sg {r : Nat} {z : Int} (h : EX r z) (hz : z ≠ 0) : Fl.sg r = decide (z < 0) := by
  have h1 := h.2.2
  have hp := PK_pos
  have hm : Fl.mag (Fl.rung r) ≠ 0 := by
    rw [h.mag]
    exact Nat.mul_ne_zero (by omega) (by omega)
  unfold Fl.val at h1
  cases hs : Fl.sg r
  · rw [hs] at h1
    have h2 : ((Fl.mag (Fl.rung r) : Nat) : Int) = z * (PK : Int) := by simpa using h1
    have : ¬ z < 0 := fun hn => by
      have : z * (PK : Int) < 0 := Int.mul_neg_of_neg_of_pos hn (by omega)
      omega
    simp [this]
  · rw [hs] at h1
    have h2 : -((Fl.mag (Fl.rung r) : Nat) : Int) = z * (PK : Int) := by simpa using h1
    have : z < 0 := by
      rcases Int.lt_or_le z 0 with hn | hn
      · exact hn
      · exfalso
        have : 0 ≤ z * (PK : Int) := Int.mul_nonneg hn (by omega)
        omega
    simp [this]
theorem wd_ex (s : Bool) (z : Int) {r : Nat} (hr : r < Fl.INF) (hm : Fl.mag r = z.natAbs * PK) (hs : z ≠ 0 → s = decide (z < 0)) : EX (Fl.wd s r) z := by
  have hr2 : r < 9223372036854775808 := by unfold Fl.INF at hr; omega
  have hrung : Fl.rung (Fl.wd s r) = r := by unfold Fl.rung Fl.wd; split <;> omega
  refine ⟨by unfold Fl.wd; split <;> omega, by rw [hrung]; exact hr, ?_⟩
  rw [Fl.val_wd s hr2, hm]
  by_cases h0 : z = 0
  · subst h0; simp
  · rw [hs h0]
    have e : ((z.natAbs * PK : Nat) : Int) = (z.natAbs : Int) * (PK : Int) := by simp
    rw [e]
    by_cases hn : z < 0
    · have h2 : (z.natAbs : Int) = -z := by omega
      rw [h2]; simp [hn, Int.neg_mul]
    · have h2 : (z.natAbs : Int) = z := by omega
      rw [h2]; simp [hn]
theorem EX.mul {x y r : Nat} {a b : Int} (hx : EX x a) (hy : EX y b) (hb : (a * b).natAbs < 9007199254740992) (h : Comes .mul x y r) : EX r (a * b) := by
  obtain ⟨e, he, hK⟩ := PK_eq
  have h1 : Ieee.double.mul x y = some (Fl.wd (Fl.sg x ^^ Fl.sg y) (Fl.cap (Fl.rnd (Fl.mag (Fl.rung x) * Fl.mag (Fl.rung y)) e))) := by
    rw [he]; exact Fl.mul_fin hx.2.1 hy.2.1
  have hN : Fl.mag (Fl.rung x) * Fl.mag (Fl.rung y) = (a * b).natAbs * 2 ^ (e + e) := by
    rw [hx.mag, hy.mag, Int.natAbs_mul, Nat.pow_add, hK]
    generalize 2 ^ e = p
    rw [Nat.mul_mul_mul_comm]
  rw [hN] at h1
  obtain ⟨h2, h3⟩ := rnd_exact (a * b).natAbs e e hb (by rw [he]; decide) (Nat.le_of_eq he)
  rw [← hK] at h2
  generalize Fl.rnd ((a * b).natAbs * 2 ^ (e + e)) e = q at *
  have hc : Fl.cap q = q := by unfold Fl.cap; omega
  rw [hc] at h1
  have h4 : r = Fl.wd (Fl.sg x ^^ Fl.sg y) q := by
    have h5 : floatBits .mul .f64 x y = some (Fl.wd (Fl.sg x ^^ Fl.sg y) q) := h1
    rcases h.2 with h6 | ⟨h6, _⟩
    · exact (Option.some.inj (h5.symm.trans h6)).symm
    · exact absurd (h5.symm.trans h6) (by simp)
  rw [h4]
  refine wd_ex _ _ h3 h2 fun hz => ?_
  have ha : a ≠ 0 := fun e => hz (by rw [e, Int.zero_mul])
  have hb0 : b ≠ 0 := fun e => hz (by rw [e, Int.mul_zero])
  rw [hx.sg ha, hy.sg hb0]
  rcases Int.lt_or_lt_of_ne ha with h7 | h7 <;> rcases Int.lt_or_lt_of_ne hb0 with h8 | h8
  · have : 0 < a * b := Int.mul_pos_of_neg_of_neg h7 h8
    have e1 : ¬ a * b < 0 := by omega
    simp [h7, h8, e1]
  · have : a * b < 0 := Int.mul_neg_of_neg_of_pos h7 h8
    have e1 : ¬ b < 0 := by omega
    simp [h7, this, e1]
  · have : a * b < 0 := Int.mul_neg_of_pos_of_neg h7 h8
    have e1 : ¬ a < 0 := by omega
    simp [h8, this, e1]
  · have : 0 < a * b := Int.mul_pos h7 h8
    have e1 : ¬ a * b < 0 := by omega
    have e2 : ¬ a < 0 := by omega
    have e3 : ¬ b < 0 := by omega
    simp [e1, e2, e3]
theorem EX.add {x y r : Nat} {a b : Int} (hx : EX x a) (hy : EX y b) (hb : (a + b).natAbs < 9007199254740992) (h : Comes .add x y r) : EX r (a + b) := by
  obtain ⟨s, h1, hs⟩ := Fl.add_fin hx.2.1 hy.2.1
  have hV : Fl.val x + Fl.val y = (a + b) * (PK : Int) := by rw [hx.2.2, hy.2.2, Int.add_mul]
  rw [hV] at h1 hs
  obtain ⟨e, he, hK⟩ := PK_eq
  have hN : ((a + b) * (PK : Int)).natAbs = (a + b).natAbs * 2 ^ (e + 0) := by
    rw [Int.natAbs_mul, Int.natAbs_natCast, hK, Nat.add_zero]
  rw [hN] at h1
  obtain ⟨h2, h3⟩ := rnd_exact (a + b).natAbs e 0 hb (by rw [he]; decide) (Nat.le_of_eq he)
  rw [← hK] at h2
  generalize Fl.rnd ((a + b).natAbs * 2 ^ (e + 0)) 0 = q at *
  have hc : Fl.cap q = q := by unfold Fl.cap; omega
  rw [hc] at h1
  have h4 : r = Fl.wd s q := by
    have h5 : floatBits .add .f64 x y = some (Fl.wd s q) := h1
    rcases h.2 with h6 | ⟨h6, _⟩
    · exact (Option.some.inj (h5.symm.trans h6)).symm
    · exact absurd (h5.symm.trans h6) (by simp)
  rw [h4]
  refine wd_ex _ _ h3 h2 fun hz => ?_
  have hp := PK_pos
  have h8 : (a + b) * (PK : Int) ≠ 0 := Int.mul_ne_zero hz (by omega)
  rw [hs h8]
  by_cases hn : a + b < 0
  · have h9 : (a + b) * (PK : Int) < 0 := Int.mul_neg_of_neg_of_pos hn (by omega)
    simp [hn, h9]
  · have h9 : ¬ (a + b) * (PK : Int) < 0 := by
      have : 0 ≤ (a + b) * (PK : Int) := Int.mul_nonneg (by omega) (by omega)
      omega
    simp [hn, h9]
theorem EX.zero : EX 0 0 := ⟨by omega, by decide, by rw [Int.zero_mul]; decide⟩
theorem EX.is_ {r x : Nat} {z : Int} (h : EX x z) (hi : Is r x) : EX r z := by
  rw [hi.eq_of h.nan]; exact h
/-- Two words of one whole number are equal, as floats are. -/
theorem EX.order {r r' : Nat} {z : Int} (h : EX r z) (h' : EX r' z) : (FloatKind.f64.format.order r r' == some .eq) = true := by
  have h1 : Ieee.double.order r r' = some (compare (Fl.val r) (Fl.val r')) := Fl.order_val (Nat.le_of_lt h.2.1) (Nat.le_of_lt h'.2.1)
  have h2 : FloatKind.f64.format.order r r' = some (compare (Fl.val r) (Fl.val r')) := h1
  rw [h2, h.2.2, h'.2.2]
  simp
/-- The sum of the first products. -/
def dotZ (f g : Nat → Int) : Nat → Int
  | 0 => 0
  | k + 1 => dotZ f g k + f k * g k
theorem dotZ_le (f g : Nat → Int) (B : Nat) (hB : ∀ k, (f k * g k).natAbs ≤ B) : ∀ n, (dotZ f g n).natAbs ≤ n * B
  | 0 => by simp [dotZ]
  | n + 1 => by
    have h1 := dotZ_le f g B hB n
    have h2 := hB n
    have h3 : (dotZ f g (n + 1)).natAbs ≤ (dotZ f g n).natAbs + (f n * g n).natAbs := Int.natAbs_add_le _ _
    rw [Nat.add_mul, Nat.one_mul]
    omega
theorem EX.dot {l m : List Nat} {f g : Nat → Int} {B : Nat} (hB : ∀ k, (f k * g k).natAbs ≤ B) (hB2 : 61 * B < 9007199254740992) : ∀ n, n ≤ 60 → (∀ k, k < n → EX (l.getD k 0) (f k) ∧ EX (m.getD k 0) (g k)) → EX (dotF l m n) (dotZ f g n)
  | 0, _, _ => EX.zero
  | n + 1, hn, h => by
    have ih := EX.dot (l := l) (m := m) hB hB2 n (by omega) (fun k hk => h k (by omega))
    obtain ⟨h1, h2⟩ := h n (by omega)
    have hb := hB n
    have hp : EX (fbin .mul (l.getD n 0) (m.getD n 0)) (f n * g n) := by
      have hc : Comes .mul (l.getD n 0) (m.getD n 0) (fbin .mul (l.getD n 0) (m.getD n 0)) := fbin_comes _ _ _
      exact h1.mul h2 (by omega) hc
    have hd := dotZ_le f g B hB (n + 1)
    have hd2 : (n + 1) * B ≤ 61 * B := Nat.mul_le_mul_right _ (by omega)
    have hs : EX (fbin .add (dotF l m n) (fbin .mul (l.getD n 0) (m.getD n 0))) (dotZ f g n + f n * g n) :=
      ih.add hp (by show (dotZ f g (n + 1)).natAbs < _; omega) (fbin_comes _ _ _)
    exact hs
end Go.Proofs.Ytbbgldelebgnfaa
/-
Gemm: products of small whole numbers are exact; brackets; turned about. Conditions: as each says.
-/
set_option linter.unusedVariables false
namespace Go.Proofs.Ytbbgldelebgnfaa
open Go.RowKit

/-- A word is exactly a whole number, as a test. -/
def exBe (r : Nat) (z : Int) : Bool := decide (r < 18446744073709551616) && decide (Fl.rung r < Fl.INF) && decide (Fl.val r = z * (PK : Int))
theorem ex_ofe {r : Nat} {z : Int} (h : exBe r z = true) : EX r z := by
  unfold exBe at h
  simp only [Bool.and_eq_true, decide_eq_true_eq] at h
  exact ⟨h.1.1, h.1.2, h.2⟩
theorem all_wordse : (List.range 256).all (fun n => exBe (floatOfInt .f64 ((n : Int) - 128)) ((n : Int) - 128)) = true := by decide +kernel
theorem int_worde {z : Int} (h : -128 ≤ z ∧ z < 128) : EX (floatOfInt .f64 z) z := by
  have := List.all_eq_true.1 all_wordse (z + 128).toNat (List.mem_range.2 (by omega))
  have e : (((z + 128).toNat : Nat) : Int) - 128 = z := by omega
  rw [e] at this
  exact ex_ofe this
theorem one_ex : EX ONEe 1 := ex_ofe (by decide +kernel)
theorem turns_eqe {y z : Nat} {t : Int} (hy : EX y t) (hz : EX z t) : (FloatKind.f64.format.order y z != some .eq) = false := by
  have := hy.order hz
  simp only [bne, this]
  rfl
theorem dotZ_congr {f f' g g' : Nat → Int} : ∀ n, (∀ k, k < n → f k = f' k) → (∀ k, k < n → g k = g' k) → dotZ f g n = dotZ f' g' n
  | 0, _, _ => rfl
  | n + 1, h1, h2 => by
    show dotZ f g n + f n * g n = dotZ f' g' n + f' n * g' n
    rw [dotZ_congr n (fun k hk => h1 k (by omega)) (fun k hk => h2 k (by omega)), h1 n (by omega), h2 n (by omega)]
theorem dotZ_comm (f g : Nat → Int) : ∀ n, dotZ f g n = dotZ g f n
  | 0 => rfl
  | n + 1 => by
    show dotZ f g n + f n * g n = dotZ g f n + g n * f n
    rw [dotZ_comm f g n, Int.mul_comm]
theorem dotZ_zero (f : Nat → Int) : ∀ n, dotZ f (fun _ => 0) n = 0
  | 0 => rfl
  | n + 1 => by
    show dotZ f (fun _ => 0) n + f n * 0 = 0
    rw [dotZ_zero f n]; simp
theorem dotZ_addr (f g h : Nat → Int) : ∀ n, dotZ f (fun k => g k + h k) n = dotZ f g n + dotZ f h n
  | 0 => rfl
  | n + 1 => by
    show dotZ f (fun k => g k + h k) n + f n * (g n + h n) = (dotZ f g n + f n * g n) + (dotZ f h n + f n * h n)
    rw [dotZ_addr f g h n, Int.mul_add]
    omega
theorem dotZ_mulr (f g : Nat → Int) (c : Int) : ∀ n, dotZ f (fun k => g k * c) n = dotZ f g n * c
  | 0 => by show (0 : Int) = 0 * c; simp
  | n + 1 => by
    show dotZ f (fun k => g k * c) n + f n * (g n * c) = (dotZ f g n + f n * g n) * c
    rw [dotZ_mulr f g c n, Int.add_mul, Int.mul_assoc]
/-- A product's whole number. -/
def mulZ (A B : Nat → Nat → Int) (K i j : Nat) : Int := dotZ (fun k => A i k) (fun k => B k j) K
/-- Brackets may be set at will. -/
theorem mulZ_assoc (A B C : Nat → Nat → Int) (M i j : Nat) : ∀ K, mulZ (mulZ A B M) C K i j = mulZ A (mulZ B C K) M i j
  | 0 => (dotZ_zero _ M).symm
  | K + 1 => by
    show mulZ (mulZ A B M) C K i j + mulZ A B M i K * C K j = dotZ (fun m => A i m) (fun m => mulZ B C K m j + B m K * C K j) M
    rw [dotZ_addr, mulZ_assoc A B C M i j K, dotZ_mulr]
    rfl
theorem mulZ_le {A B : Nat → Nat → Int} {a b K : Nat} (hA : ∀ i j, (A i j).natAbs ≤ a) (hB : ∀ i j, (B i j).natAbs ≤ b) (i j : Nat) : (mulZ A B K i j).natAbs ≤ K * (a * b) :=
  dotZ_le _ _ (a * b) (fun k => by rw [Int.natAbs_mul]; exact Nat.mul_le_mul (hA i k) (hB k j)) K
/-- Turned about. -/
theorem mulZ_turn (A B : Nat → Nat → Int) (K i j : Nat) : mulZ (fun a b => B b a) (fun a b => A b a) K j i = mulZ A B K i j := dotZ_comm _ _ K
theorem geF_ex {f g : Nat → Nat} {F G : Nat → Int} {B : Nat} (hG : ∀ k, (G k).natAbs < 9007199254740992) (hB : ∀ k, (F k * G k).natAbs ≤ B) (h7 : 7 * B < 9007199254740992) : ∀ K, K ≤ 6 → (∀ k, k < K → EX (f k) (F k) ∧ EX (g k) (G k)) → EX (geF ONEe 0 0 f g K) (dotZ F G K)
  | 0, _, _ => by
    show EX (begF 0 0) 0
    rw [begF_zero]; exact EX.zero
  | K + 1, hK, h => by
    have ih := geF_ex hG hB h7 K (by omega) (fun k hk => h k (by omega))
    obtain ⟨h1, h2⟩ := h K (by omega)
    have hb := hB K
    have hg := hG K
    have hp1 : EX (fbin .mul ONEe (g K)) (1 * G K) := one_ex.mul h2 (by rw [Int.one_mul]; exact hg) (fbin_comes _ _ _)
    rw [Int.one_mul] at hp1
    have hp : EX (fbin .mul (fbin .mul ONEe (g K)) (f K)) (G K * F K) := hp1.mul h1 (by rw [Int.mul_comm]; omega) (fbin_comes _ _ _)
    rw [Int.mul_comm] at hp
    have hd := dotZ_le F G B hB (K + 1)
    have hd2 : (K + 1) * B ≤ 7 * B := Nat.mul_le_mul_right _ (by omega)
    exact ih.add hp (by show (dotZ F G (K + 1)).natAbs < _; omega) (fbin_comes _ _ _)
end Go.Proofs.Ytbbgldelebgnfaa
