/-
A sum of products is close to the exact one. Conditions: at most 60 products, and the sum is finite.
-/
import Derived.Test.YtodoibioedelgaaGm
import Derived.Test.YtodoibioedelgaaGbc
import Derived.Test.YtodoibioedelgaaGbb
set_option linter.unusedVariables false
namespace Go.Proofs.Ytodoibioedelgaa

theorem fbin_some {op : BinOp} {x y r : Nat} (h : fbin op x y = r) (hr : Fl.rung r < Fl.INF) : floatBits op .f64 x y = some r := by
  unfold fbin at h
  cases hb : floatBits op .f64 x y with
  | some z => rw [hb] at h; exact congrArg some h
  | none =>
    rw [hb] at h
    have h : NANW = r := h
    subst h
    exact absurd hr (by decide)
/-- The exact sum of the first products, in units of 2^-2148. -/
def dotE (l m : List Nat) : Nat → Int
  | 0 => 0
  | k + 1 => dotE l m k + Fl.val (l.getD k 0) * Fl.val (m.getD k 0)
/-- The exact sum of the first products without signs. -/
def dotA (l m : List Nat) : Nat → Nat
  | 0 => 0
  | k + 1 => dotA l m k + (Fl.val (l.getD k 0) * Fl.val (m.getD k 0)).natAbs
theorem dotE_le (l m : List Nat) : ∀ k, (dotE l m k).natAbs ≤ dotA l m k
  | 0 => by simp [dotE]
  | k + 1 => by
    have := dotE_le l m k
    unfold dotE dotA
    generalize Fl.val (l.getD k 0) * Fl.val (m.getD k 0) = P
    omega
theorem close_lin {a b c A P K X Y Z : Nat} (h1 : 4503599627370496 * a ≤ X + Y) (hX : X ≤ 60 * A) (hY : Y ≤ 60 * (4503599627370496 * K)) (hZ : P ≤ Z) (h2 : 9007199254740992 * b ≤ max P (4503599627370496 * K)) (h3 : 9007199254740992 * c ≤ A + a + P + b) :
    4503599627370496 * (a + b + c) ≤ X + A + Z + P + Y + 4503599627370496 * K := by
  omega
theorem dot_close (l m : List Nat) : ∀ n, n ≤ 60 → Fl.rung (dotF l m n) < Fl.INF →
    4503599627370496 * (Fl.val (dotF l m n) * ((2 ^ 1074 : Nat) : Int) - dotE l m n).natAbs ≤ n * (dotA l m n + 4503599627370496 * 2 ^ 1074)
  | 0, _, _ => by
    have h0 : Fl.val (dotF l m 0) = 0 := by unfold dotF; decide
    rw [h0, Int.zero_mul]
    exact Nat.le_trans (show 4503599627370496 * (0 - dotE l m 0).natAbs ≤ 0 by simp [dotE]) (Nat.zero_le _)
  | n + 1, hn, hr => by
    have hs := fbin_some (op := .add) (x := dotF l m n) (y := fbin .mul (l.getD n 0) (m.getD n 0)) rfl hr
    have hs : Ieee.double.add (dotF l m n) (fbin .mul (l.getD n 0) (m.getD n 0)) = some (dotF l m (n + 1)) := hs
    obtain ⟨hfs, hfp⟩ := Fl.add_back hs hr
    have hp := fbin_some (op := .mul) (x := l.getD n 0) (y := m.getD n 0) rfl hfp
    have hp : Ieee.double.mul (l.getD n 0) (m.getD n 0) = some (fbin .mul (l.getD n 0) (m.getD n 0)) := hp
    obtain ⟨hfx, hfy⟩ := Fl.mul_back hp hfp
    have hb := Fl.mul_err hfx hfy hp hfp
    have hc := Fl.add_err hfs hfp hs hr
    have hE : dotE l m (n + 1) = dotE l m n + Fl.val (l.getD n 0) * Fl.val (m.getD n 0) := rfl
    have hA : dotA l m (n + 1) = dotA l m n + (Fl.val (l.getD n 0) * Fl.val (m.getD n 0)).natAbs := rfl
    have hEA := dotE_le l m n
    rw [hE, hA]
    generalize Fl.val (l.getD n 0) * Fl.val (m.getD n 0) = P at *
    by_cases h0 : n = 0
    · subst h0
      have h1 := Fl.add_zero_val hfp hs
      rw [h1, show dotE l m 0 = 0 from rfl, show dotA l m 0 = 0 from rfl]
      generalize Fl.val (fbin .mul (l.getD 0 0) (m.getD 0 0)) * ((2 ^ 1074 : Nat) : Int) = q at *
      generalize 4503599627370496 * 2 ^ 1074 = Y at *
      omega
    · have ih := dot_close l m n (by omega) hfs
      have hK : 0 < 2 ^ 1074 := Nat.two_pow_pos 1074
      generalize Fl.val (dotF l m (n + 1)) = r at *
      generalize Fl.val (dotF l m n) = s at *
      generalize Fl.val (fbin .mul (l.getD n 0) (m.getD n 0)) = p at *
      generalize 2 ^ 1074 = K at *
      generalize dotE l m n = S at *
      generalize dotA l m n = A at *
      have hd : r * (K : Int) - (S + P) = (s * (K : Int) - S) + (p * (K : Int) - P) + (r - (s + p)) * (K : Int) := by
        rw [Int.sub_mul, Int.add_mul]; omega
      have hcK : ((r - (s + p)) * (K : Int)).natAbs = (r - (s + p)).natAbs * K := by rw [Int.natAbs_mul, Int.natAbs_natCast]
      have hsK : ((s + p) * (K : Int)).natAbs = (s + p).natAbs * K := by rw [Int.natAbs_mul, Int.natAbs_natCast]
      have hc2 : 9007199254740992 * ((r - (s + p)) * (K : Int)).natAbs ≤ ((s + p) * (K : Int)).natAbs := by
        rw [hcK, hsK, ← Nat.mul_assoc]
        exact Nat.mul_le_mul_right K hc
      have hsp : (s + p) * (K : Int) = s * (K : Int) + p * (K : Int) := Int.add_mul s p K
      rw [hsp] at hc2
      rw [hd]
      clear hcK hsK hsp hd hs hp hr hfs hfp hfx hfy hE hA hc
      have hX : n * A ≤ 60 * A := Nat.mul_le_mul_right _ (by omega)
      have hY : n * (4503599627370496 * K) ≤ 60 * (4503599627370496 * K) := Nat.mul_le_mul_right _ (by omega)
      have hZ : P.natAbs ≤ n * P.natAbs := Nat.le_mul_of_pos_left _ (by omega)
      rw [Nat.mul_add] at ih
      have eR : (n + 1) * (A + P.natAbs + 4503599627370496 * K) = n * A + A + n * P.natAbs + P.natAbs + n * (4503599627370496 * K) + 4503599627370496 * K := by
        rw [Nat.add_mul, Nat.one_mul, Nat.mul_add, Nat.mul_add]; omega
      rw [eR]
      generalize n * A = X at *
      generalize n * (4503599627370496 * K) = Y at *
      generalize n * P.natAbs = Z at *
      generalize s * (K : Int) = sk at *
      generalize p * (K : Int) = pk at *
      generalize (r - (s + p)) * (K : Int) = ck at *
      have h3 : 9007199254740992 * ck.natAbs ≤ A + (sk - S).natAbs + P.natAbs + (pk - P).natAbs := by omega
      refine Nat.le_trans ?_ (close_lin ih hX hY hZ hb h3)
      omega
end Go.Proofs.Ytodoibioedelgaa
/-
A sum's float is the nearest; a product added to a number is close. Conditions: all is finite.
-/
set_option linter.unusedVariables false
namespace Go.Proofs.Ytodoibioedelgaa.Fl
open Ieee

theorem rne_near (n d q : Nat) : (((rne n d * 2 ^ d : Nat) : Int) - (n : Int)).natAbs ≤ (((q * 2 ^ d : Nat) : Int) - (n : Int)).natAbs := by
  have e := Nat.div_add_mod n (2 ^ d)
  have hp : 0 < 2 ^ d := Nat.two_pow_pos d
  have hr : n % 2 ^ d < 2 ^ d := Nat.mod_lt _ hp
  rw [Nat.mul_comm (2 ^ d) (n / 2 ^ d)] at e
  have hq : q * 2 ^ d ≤ n / 2 ^ d * 2 ^ d ∨ n / 2 ^ d * 2 ^ d + 2 ^ d ≤ q * 2 ^ d := by
    rcases Nat.lt_or_ge (n / 2 ^ d) q with h | h
    · right
      have := Nat.mul_le_mul_right (2 ^ d) (show n / 2 ^ d + 1 ≤ q from h)
      rw [Nat.add_mul, Nat.one_mul] at this
      exact this
    · exact .inl (Nat.mul_le_mul_right _ h)
  unfold rne
  split
  · rename_i h
    rw [Nat.add_mul, Nat.one_mul]
    generalize n / 2 ^ d * 2 ^ d = a at *
    generalize n % 2 ^ d = r at *
    generalize q * 2 ^ d = b at *
    generalize 2 ^ d = p at *
    omega
  · rename_i h
    rw [Nat.add_zero]
    generalize n / 2 ^ d * 2 ^ d = a at *
    generalize n % 2 ^ d = r at *
    generalize q * 2 ^ d = b at *
    generalize 2 ^ d = p at *
    omega
theorem rnd_near (N r : Nat) : ((mag (rnd N 0) : Int) - (N : Int)).natAbs ≤ ((mag r : Int) - (N : Int)).natAbs := by
  rw [mag_rnd]
  obtain ⟨t, ht⟩ : ∃ t, N.log2 - (0 + 52) = t := ⟨_, rfl⟩
  rw [ht, Nat.zero_add]
  by_cases h0 : t = 0
  · subst h0
    rw [rne_d0]
    simp
  · have hN : N ≠ 0 := by
      rintro rfl
      simp at ht; omega
    have hlo := Nat.log2_self_le hN
    rcases Nat.lt_or_ge (mag r) (2 ^ N.log2) with hlt | hge
    · have h1 := rne_near N t (2 ^ 52)
      have e : 2 ^ 52 * 2 ^ t = 2 ^ N.log2 := by rw [← Nat.pow_add]; congr 1; omega
      rw [e] at h1
      generalize rne N t * 2 ^ t = a at *
      generalize 2 ^ N.log2 = b at *
      omega
    · have hm : ∃ q, mag r = q * 2 ^ t := by
        unfold mag at hge ⊢
        split at hge
        · exfalso
          have : 2 ^ 53 ≤ 2 ^ N.log2 := Nat.pow_le_pow_right (by omega) (by omega)
          have e : 2 ^ 53 = 9007199254740992 := by decide
          omega
        · rename_i h
          rw [if_neg h]
          obtain ⟨k, hk⟩ : ∃ k, r / 4503599627370496 - 1 = k := ⟨_, rfl⟩
          rw [hk] at hge ⊢
          have e53 : 2 ^ 53 = 9007199254740992 := by decide
          have h1 : 4503599627370496 + r % 4503599627370496 < 2 ^ 53 := by omega
          have h2 : (4503599627370496 + r % 4503599627370496) * 2 ^ k < 2 ^ 53 * 2 ^ k := Nat.mul_lt_mul_of_pos_right h1 (Nat.two_pow_pos k)
          rw [← Nat.pow_add] at h2
          have h3 : N.log2 < 53 + k := by
            rcases Nat.lt_or_ge N.log2 (53 + k) with h | h
            · exact h
            · have := Nat.pow_le_pow_right (show 0 < 2 by omega) h
              omega
          refine ⟨(4503599627370496 + r % 4503599627370496) * 2 ^ (k - t), ?_⟩
          rw [Nat.mul_assoc, ← Nat.pow_add]
          congr 2; omega
      obtain ⟨q, hq⟩ := hm
      rw [hq]
      exact rne_near N t q
/-- No farther off than the one that was added. -/
theorem add_near {x y r : Nat} (hx : rung x < INF) (hy : rung y < INF) (h : double.add x y = some r) (hr : rung r < INF) :
    (val r - (val x + val y)).natAbs ≤ (val x).natAbs := by
  obtain ⟨s, h1, h2⟩ := add_fin hx hy
  rw [h] at h1
  obtain rfl : r = _ := Option.some.inj h1
  rw [rung_wd s (cap_lt _)] at hr
  rw [val_wd s (cap_lt _), cap_fin hr]
  have hn := rnd_near (val x + val y).natAbs (rung y)
  have hyv : (val y).natAbs = mag (rung y) := by unfold val; split <;> omega
  have e0 := rnd_err0 (val x + val y).natAbs
  generalize mag (rnd (val x + val y).natAbs 0) = M at *
  generalize mag (rung y) = Y at *
  by_cases h0 : val x + val y = 0
  · have hM : M = 0 := by
      have := e0.1
      rw [h0] at this
      simp at this
      omega
    subst hM
    rw [h0]
    cases s <;> simp
  · have hs := h2 h0
    by_cases hneg : val x + val y < 0
    · rw [show s = true by rw [hs]; simp [hneg]]
      simp only [if_true]
      omega
    · rw [show s = false by rw [hs]; simp [hneg]]
      simp only [Bool.false_eq_true, if_false]
      omega
theorem axpy_lin {P Y e d t K : Nat} (h1 : 9007199254740992 * d ≤ Y + P + e) (h2 : 9007199254740992 * e ≤ max P (4503599627370496 * K)) (h3 : d ≤ Y) (ht : t ≤ d + e) : 4503599627370496 * t ≤ P + Y + 4503599627370496 * K := by
  omega
/-- A product added to a number: no farther off than 2^-52 of both, and 2^-1074 (in units of 2^-2148). -/
theorem axpy_err {a x y p r : Nat} (h1 : double.mul a x = some p) (h2 : double.add y p = some r) (hr : rung r < INF) :
    4503599627370496 * (val r * ((2 ^ 1074 : Nat) : Int) - val a * val x - val y * ((2 ^ 1074 : Nat) : Int)).natAbs ≤ (val a * val x).natAbs + (val y).natAbs * 2 ^ 1074 + 4503599627370496 * 2 ^ 1074 := by
  obtain ⟨hfy, hfp⟩ := add_back h2 hr
  obtain ⟨hfa, hfx⟩ := mul_back h1 hfp
  have e1 := mul_err hfa hfx h1 hfp
  have e2 := add_err hfy hfp h2 hr
  have e3 := add_near hfy hfp h2 hr
  generalize val r = R at *
  generalize val p = q at *
  generalize val y = Y at *
  generalize val a * val x = P at *
  generalize 2 ^ 1074 = K at *
  have hd : R * (K : Int) - P - Y * (K : Int) = (R - (Y + q)) * (K : Int) + (q * (K : Int) - P) := by
    rw [Int.sub_mul, Int.add_mul]; omega
  have hcK : ((R - (Y + q)) * (K : Int)).natAbs = (R - (Y + q)).natAbs * K := by rw [Int.natAbs_mul, Int.natAbs_natCast]
  have hsK : ((Y + q) * (K : Int)).natAbs = (Y + q).natAbs * K := by rw [Int.natAbs_mul, Int.natAbs_natCast]
  have hyK : (Y * (K : Int)).natAbs = Y.natAbs * K := by rw [Int.natAbs_mul, Int.natAbs_natCast]
  have e4 := Nat.mul_le_mul_right K e2
  rw [Nat.mul_assoc, ← hcK, ← hsK, Int.add_mul] at e4
  have e5 := Nat.mul_le_mul_right K e3
  rw [← hcK, ← hyK] at e5
  rw [hd, ← hyK]
  clear hd hcK hsK hyK e2 e3
  generalize (R - (Y + q)) * (K : Int) = D at *
  generalize q * (K : Int) = qk at *
  generalize Y * (K : Int) = yk at *
  exact axpy_lin (e := (qk - P).natAbs) (d := D.natAbs) (by omega) e1 e5 (by omega)
end Go.Proofs.Ytodoibioedelgaa.Fl
/-
A sum of products that is added to a number is close to the exact one. Conditions: at most 60 products, and the sum is finite.
-/
set_option linter.unusedVariables false
namespace Go.Proofs.Ytodoibioedelgaa

/-- Products, added one behind the other to a number. -/
def chF (y : Nat) (l m : List Nat) : Nat → Nat
  | 0 => y
  | k + 1 => fbin .add (chF y l m k) (fbin .mul (l.getD k 0) (m.getD k 0))
theorem chain_lin {a b c A P K X Y Z : Nat} (h1 : 4503599627370496 * a ≤ X + Y) (hX : X ≤ 61 * A) (hY : Y ≤ 61 * (4503599627370496 * K)) (hZ : P ≤ Z) (h2 : 9007199254740992 * b ≤ max P (4503599627370496 * K)) (h3 : 9007199254740992 * c ≤ A + a + P + b) :
    4503599627370496 * (a + b + c) ≤ X + A + Z + P + Y + 4503599627370496 * K := by
  omega
theorem chain_close (y : Nat) (l m : List Nat) : ∀ n, n ≤ 60 → Fl.rung (chF y l m n) < Fl.INF →
    4503599627370496 * (Fl.val (chF y l m n) * ((2 ^ 1074 : Nat) : Int) - (Fl.val y * ((2 ^ 1074 : Nat) : Int) + dotE l m n)).natAbs ≤ (n + 1) * ((Fl.val y).natAbs * 2 ^ 1074 + dotA l m n + 4503599627370496 * 2 ^ 1074)
  | 0, _, _ => by
    have e : Fl.val (chF y l m 0) * ((2 ^ 1074 : Nat) : Int) - (Fl.val y * ((2 ^ 1074 : Nat) : Int) + dotE l m 0) = 0 := by
      show Fl.val y * ((2 ^ 1074 : Nat) : Int) - (Fl.val y * ((2 ^ 1074 : Nat) : Int) + 0) = 0
      generalize Fl.val y * ((2 ^ 1074 : Nat) : Int) = q
      omega
    rw [e]
    exact Nat.le_trans (show 4503599627370496 * (0 : Int).natAbs ≤ 0 by simp) (Nat.zero_le _)
  | n + 1, hn, hr => by
    have hs := fbin_some (op := .add) (x := chF y l m n) (y := fbin .mul (l.getD n 0) (m.getD n 0)) rfl hr
    have hs : Ieee.double.add (chF y l m n) (fbin .mul (l.getD n 0) (m.getD n 0)) = some (chF y l m (n + 1)) := hs
    obtain ⟨hfs, hfp⟩ := Fl.add_back hs hr
    have hp := fbin_some (op := .mul) (x := l.getD n 0) (y := m.getD n 0) rfl hfp
    have hp : Ieee.double.mul (l.getD n 0) (m.getD n 0) = some (fbin .mul (l.getD n 0) (m.getD n 0)) := hp
    obtain ⟨hfx, hfy⟩ := Fl.mul_back hp hfp
    have hb := Fl.mul_err hfx hfy hp hfp
    have hc := Fl.add_err hfs hfp hs hr
    have ih := chain_close y l m n (by omega) hfs
    have hE : dotE l m (n + 1) = dotE l m n + Fl.val (l.getD n 0) * Fl.val (m.getD n 0) := rfl
    have hA : dotA l m (n + 1) = dotA l m n + (Fl.val (l.getD n 0) * Fl.val (m.getD n 0)).natAbs := rfl
    have hEA := dotE_le l m n
    rw [hE, hA]
    generalize Fl.val (l.getD n 0) * Fl.val (m.getD n 0) = P at *
    generalize Fl.val (chF y l m (n + 1)) = r at *
    generalize Fl.val (chF y l m n) = s at *
    generalize Fl.val (fbin .mul (l.getD n 0) (m.getD n 0)) = p at *
    generalize Fl.val y = v at *
    generalize 2 ^ 1074 = K at *
    generalize dotE l m n = S at *
    generalize dotA l m n = A at *
    have hd : r * (K : Int) - (v * (K : Int) + (S + P)) = (s * (K : Int) - (v * (K : Int) + S)) + (p * (K : Int) - P) + (r - (s + p)) * (K : Int) := by
      rw [Int.sub_mul, Int.add_mul]; omega
    have hcK : ((r - (s + p)) * (K : Int)).natAbs = (r - (s + p)).natAbs * K := by rw [Int.natAbs_mul, Int.natAbs_natCast]
    have hsK : ((s + p) * (K : Int)).natAbs = (s + p).natAbs * K := by rw [Int.natAbs_mul, Int.natAbs_natCast]
    have hvK : (v * (K : Int)).natAbs = v.natAbs * K := by rw [Int.natAbs_mul, Int.natAbs_natCast]
    have hc2 : 9007199254740992 * ((r - (s + p)) * (K : Int)).natAbs ≤ ((s + p) * (K : Int)).natAbs := by
      rw [hcK, hsK, ← Nat.mul_assoc]
      exact Nat.mul_le_mul_right K hc
    have hsp : (s + p) * (K : Int) = s * (K : Int) + p * (K : Int) := Int.add_mul s p K
    rw [hsp] at hc2
    rw [hd]
    rw [← hvK] at ih ⊢
    clear hcK hsK hvK hsp hd hs hp hr hfs hfp hfx hfy hE hA hc
    generalize v * (K : Int) = V at *
    obtain ⟨A', hA'⟩ : ∃ A', V.natAbs + A = A' := ⟨_, rfl⟩
    rw [hA'] at ih
    have e0 : V.natAbs + (A + P.natAbs) = A' + P.natAbs := by omega
    rw [e0]
    have hX : (n + 1) * A' ≤ 61 * A' := Nat.mul_le_mul_right _ (by omega)
    have hY : (n + 1) * (4503599627370496 * K) ≤ 61 * (4503599627370496 * K) := Nat.mul_le_mul_right _ (by omega)
    have hZ : P.natAbs ≤ (n + 1) * P.natAbs := Nat.le_mul_of_pos_left _ (by omega)
    rw [Nat.mul_add] at ih
    have eR : (n + 1 + 1) * (A' + P.natAbs + 4503599627370496 * K) = (n + 1) * A' + A' + (n + 1) * P.natAbs + P.natAbs + (n + 1) * (4503599627370496 * K) + 4503599627370496 * K := by
      rw [Nat.add_mul, Nat.one_mul, Nat.mul_add, Nat.mul_add]; omega
    rw [eR]
    generalize (n + 1) * A' = X at *
    generalize (n + 1) * (4503599627370496 * K) = Y at *
    generalize (n + 1) * P.natAbs = Z at *
    generalize s * (K : Int) = sk at *
    generalize p * (K : Int) = pk at *
    generalize (r - (s + p)) * (K : Int) = ck at *
    have h3 : 9007199254740992 * ck.natAbs ≤ A' + (sk - (V + S)).natAbs + P.natAbs + (pk - P).natAbs := by omega
    refine Nat.le_trans ?_ (chain_lin ih hX hY hZ hb h3)
    omega
/-- 1. -/
def ONE : Nat := 4607182418800017408
/-- One times a number is the number. -/
theorem one_mul_val {x r : Nat} (hx : Fl.rung x < Fl.INF) (h : Ieee.double.mul ONE x = some r) (hr : Fl.rung r < Fl.INF) : Fl.val r = Fl.val x := by
  have h1 := Fl.mul_fin (x := ONE) (y := x) (by decide) hx
  have e1 : Fl.rung ONE = 4607182418800017408 := by decide
  have e2 : Fl.sg ONE = false := by decide
  obtain ⟨k, hk⟩ : ∃ k, k = 1074 := ⟨_, rfl⟩
  have e3 : Fl.mag (Fl.rung ONE) = 2 ^ k := by
    have e4 : 4607182418800017408 / 4503599627370496 - 1 = 1022 := by decide
    have e5 : 4503599627370496 + 4607182418800017408 % 4503599627370496 = 2 ^ 52 := by decide
    obtain ⟨j, hj⟩ : ∃ j, 4607182418800017408 / 4503599627370496 - 1 = j := ⟨_, rfl⟩
    rw [e1]
    unfold Fl.mag
    rw [if_neg (by omega), hj, e5, ← Nat.pow_add, show 52 + j = k by omega]
  rw [h] at h1
  obtain rfl : r = _ := Option.some.inj h1
  rw [Fl.rung_wd _ (Fl.cap_lt _)] at hr
  rw [Fl.val_wd _ (Fl.cap_lt _), Fl.cap_fin hr, e2, e3, ← hk, Nat.mul_comm]
  have e6 : Fl.rnd (Fl.mag (Fl.rung x) * 2 ^ k) k = Fl.rnd (Fl.mag (Fl.rung x)) 0 := by
    have := Fl.rnd_shift (Fl.mag (Fl.rung x)) 0 k
    rw [Nat.zero_add] at this
    exact this
  rw [e6]
  have e7 : Fl.mag (Fl.rnd (Fl.mag (Fl.rung x)) 0) = Fl.mag (Fl.rung x) := by
    have := Fl.rnd_near (Fl.mag (Fl.rung x)) (Fl.rung x)
    omega
  rw [e7]
  unfold Fl.val
  simp
end Go.Proofs.Ytodoibioedelgaa
/-
GemvClose, its pure half: each number of a product is close. Conditions: at most 60 columns, and the number is finite.
-/
set_option linter.unusedVariables false
set_option linter.unusedSimpArgs false
set_option linter.unnecessarySimpa false
namespace Go.Proofs.Ytodoibioedelgaa
open Go.RowKit
attribute [local go_sem ↓] Go.wp_at_zero Go.wp_at_succ

theorem chF_back {y : Nat} {l m : List Nat} : ∀ {n : Nat}, Fl.rung (chF y l m n) < Fl.INF → Fl.rung y < Fl.INF ∧ ∀ k, k < n → Fl.rung (l.getD k 0) < Fl.INF ∧ Fl.rung (m.getD k 0) < Fl.INF
  | 0, h => ⟨h, fun k hk => by omega⟩
  | n + 1, h => by
    have hs := fbin_some (op := .add) (x := chF y l m n) (y := fbin .mul (l.getD n 0) (m.getD n 0)) rfl h
    have hs : Ieee.double.add (chF y l m n) (fbin .mul (l.getD n 0) (m.getD n 0)) = some (chF y l m (n + 1)) := hs
    obtain ⟨hfs, hfp⟩ := Fl.add_back hs h
    have hp := fbin_some (op := .mul) (x := l.getD n 0) (y := m.getD n 0) rfl hfp
    have hp : Ieee.double.mul (l.getD n 0) (m.getD n 0) = some (fbin .mul (l.getD n 0) (m.getD n 0)) := hp
    obtain ⟨hfx, hfy⟩ := Fl.mul_back hp hfp
    obtain ⟨h1, h2⟩ := chF_back hfs
    refine ⟨h1, fun k hk => ?_⟩
    by_cases e : k < n
    · exact h2 k e
    · obtain rfl : k = n := by omega
      exact ⟨hfx, hfy⟩
/-- The list of these numbers. -/
def tabL (f : Nat → Nat) (n : Nat) : List Nat := (List.range n).map f
theorem tabL_getD (f : Nat → Nat) {n k : Nat} (h : k < n) : (tabL f n).getD k 0 = f k := by simp [tabL, List.getD, h]
theorem chnF_chF (y : Nat) (f g : Nat → Nat) (n : Nat) : ∀ k, k ≤ n → chnF y (fun j => fbin .mul (f j) (g j)) k = chF y (tabL f n) (tabL g n) k
  | 0, _ => rfl
  | k + 1, h => by
    show fbin .add (chnF y _ k) (fbin .mul (f k) (g k)) = fbin .add (chF y (tabL f n) (tabL g n) k) (fbin .mul ((tabL f n).getD k 0) ((tabL g n).getD k 0))
    rw [chnF_chF y f g n k (by omega), tabL_getD f (by omega), tabL_getD g (by omega)]
theorem dotE_congr {l m l' m' : List Nat} : ∀ n, (∀ k, k < n → Fl.val (l.getD k 0) * Fl.val (m.getD k 0) = Fl.val (l'.getD k 0) * Fl.val (m'.getD k 0)) → dotE l m n = dotE l' m' n ∧ dotA l m n = dotA l' m' n
  | 0, _ => ⟨rfl, rfl⟩
  | n + 1, h => by
    obtain ⟨h1, h2⟩ := dotE_congr n (fun k hk => h k (by omega))
    have h3 := h n (by omega)
    refine ⟨?_, ?_⟩
    · show dotE l m n + Fl.val (l.getD n 0) * Fl.val (m.getD n 0) = dotE l' m' n + Fl.val (l'.getD n 0) * Fl.val (m'.getD n 0)
      rw [h1, h3]
    · show dotA l m n + (Fl.val (l.getD n 0) * Fl.val (m.getD n 0)).natAbs = dotA l' m' n + (Fl.val (l'.getD n 0) * Fl.val (m'.getD n 0)).natAbs
      rw [h2, h3]
theorem one_val {x : Nat} (hx : Fl.rung x < Fl.INF) (hr : Fl.rung (fbin .mul ONE x) < Fl.INF) : Fl.val (fbin .mul ONE x) = Fl.val x := by
  have h := fbin_some (op := .mul) (x := ONE) (y := x) rfl hr
  exact one_mul_val hx h hr
/-- Each number of a product is close. -/
theorem gemv_close {y z : Nat} {t x : Nat → Nat} {n : Nat} (hn : n ≤ 60) (hy : Fl.rung y < Fl.INF) (hx : ∀ k, k < n → Fl.rung (x k) < Fl.INF) (hz : Fl.rung z < Fl.INF)
    (h : Is z (chnF (begF ONE y) (fun k => fbin .mul (fbin .mul ONE (x k)) (t k)) n)) :
    4503599627370496 * (Fl.val z * ((2 ^ 1074 : Nat) : Int) - (Fl.val y * ((2 ^ 1074 : Nat) : Int) + dotE (tabL t n) (tabL x n) n)).natAbs ≤ (n + 1) * ((Fl.val y).natAbs * 2 ^ 1074 + dotA (tabL t n) (tabL x n) n + 4503599627370496 * 2 ^ 1074) := by
  have hb : begF ONE y = fbin .mul ONE y := by unfold begF; rw [if_neg (by decide)]
  rw [hb, chnF_chF _ _ _ n n (Nat.le_refl _)] at h
  have hnn : Fl.nan z = false := by
    cases e : Fl.nan z
    · rfl
    · have := nan_rung.1 e; omega
  have e := h.eq_of (by rw [← h.nan]; exact hnn)
  rw [e] at hz
  obtain ⟨h1, h2⟩ := chF_back hz
  have hc := chain_close _ _ _ n hn hz
  have hv := one_val hy h1
  have hd := dotE_congr (l := tabL (fun k => fbin .mul ONE (x k)) n) (m := tabL t n) (l' := tabL t n) (m' := tabL x n) n (fun k hk => by
    have := (h2 k hk).1
    rw [tabL_getD _ hk] at this
    rw [tabL_getD _ hk, tabL_getD _ hk, tabL_getD _ hk, one_val (hx k hk) this, Int.mul_comm])
  rw [hv, hd.1, hd.2, ← e] at hc
  exact hc
end Go.Proofs.Ytodoibioedelgaa
