/-
TrsvBackward, its pure half: a solved system is a solved system nearby. Conditions: fewer than 60 rows, and the solution is finite.
-/
import Derived.Test.YtlhdcajamempoaaZTrN
import Derived.Test.YtlhdcajamempoaaSan
import Derived.Test.YtlhdcajamempoaaZTrC
set_option linter.unusedVariables false
set_option linter.unusedSimpArgs false
namespace Go.Proofs.Ytlhdcajamempoaa
open Go.RowKit

/-- What is added from t on, j numbers; without signs. -/
def sufI (P : Nat → Int) : Nat → Nat → Int
  | _, 0 => 0
  | t, j + 1 => P t + sufI P (t + 1) j
def sufN (P : Nat → Int) : Nat → Nat → Nat
  | _, 0 => 0
  | t, j + 1 => (P t).natAbs + sufN P (t + 1) j
theorem suf_le (P : Nat → Int) : ∀ t j, (sufI P t j).natAbs ≤ sufN P t j
  | _, 0 => Nat.le_refl _
  | t, j + 1 => by
    have := suf_le P (t + 1) j
    show (P t + sufI P (t + 1) j).natAbs ≤ (P t).natAbs + sufN P (t + 1) j
    omega
theorem tr_lin {r c q V Z P X PP : Nat} (h1 : 9007199254740991 * c ≤ V + r) (h2 : 4503599627370496 * r ≤ X) (h3 : X ≤ 60 * (V + Z)) (h4 : 9007199254740992 * q ≤ max P Z) (h5 : P ≤ PP) :
    4503599627370496 * (r + c + q) ≤ X + (V + Z) + PP := by omega
/-- What one row misses, from step t on. -/
theorem tr_resid (e A X : Nat → Nat) (m : Nat) (hs : ∀ t, t < m → e (t + 1) = fbin .sub (e t) (fbin .mul (A t) (X t))) (hf : Fl.rung (e m) < Fl.INF) : ∀ j t, t + j = m → j ≤ 60 → Fl.rung (e t) < Fl.INF ∧
    4503599627370496 * (Fl.val (e t) * ((2 ^ 1074 : Nat) : Int) - sufI (fun s => Fl.val (A s) * Fl.val (X s)) t j - Fl.val (e m) * ((2 ^ 1074 : Nat) : Int)).natAbs ≤ j * ((Fl.val (e m) * ((2 ^ 1074 : Nat) : Int)).natAbs + sufN (fun s => Fl.val (A s) * Fl.val (X s)) t j + 4503599627370496 * 2 ^ 1074)
  | 0, t, ht, _ => by
    have : t = m := by omega
    subst this
    refine ⟨hf, ?_⟩
    have e0 : Fl.val (e t) * ((2 ^ 1074 : Nat) : Int) - sufI (fun s => Fl.val (A s) * Fl.val (X s)) t 0 - Fl.val (e t) * ((2 ^ 1074 : Nat) : Int) = 0 := by
      show Fl.val (e t) * ((2 ^ 1074 : Nat) : Int) - 0 - Fl.val (e t) * ((2 ^ 1074 : Nat) : Int) = 0
      generalize Fl.val (e t) * ((2 ^ 1074 : Nat) : Int) = q
      omega
    rw [e0]
    exact Nat.le_trans (show 4503599627370496 * (0 : Int).natAbs ≤ 0 by simp) (Nat.zero_le _)
  | j + 1, t, ht, hj => by
    obtain ⟨hf1, ih⟩ := tr_resid e A X m hs hf j (t + 1) (by omega) (by omega)
    have hst := hs t (by omega)
    have hsb := fbin_some (op := .sub) (x := e t) (y := fbin .mul (A t) (X t)) rfl (by rw [← hst]; exact hf1)
    rw [← hst] at hsb
    have hsb : Ieee.double.sub (e t) (fbin .mul (A t) (X t)) = some (e (t + 1)) := hsb
    obtain ⟨hfe, hfp⟩ := Fl.sub_back hsb hf1
    have hp := fbin_some (op := .mul) (x := A t) (y := X t) rfl hfp
    have hp : Ieee.double.mul (A t) (X t) = some (fbin .mul (A t) (X t)) := hp
    obtain ⟨hfx, hfy⟩ := Fl.mul_back hp hfp
    have hb := Fl.mul_err hfx hfy hp hfp
    have hc := Fl.sub_err hfe hfp hsb hf1
    refine ⟨hfe, ?_⟩
    have hE : sufI (fun s => Fl.val (A s) * Fl.val (X s)) t (j + 1) = Fl.val (A t) * Fl.val (X t) + sufI (fun s => Fl.val (A s) * Fl.val (X s)) (t + 1) j := rfl
    have hA : sufN (fun s => Fl.val (A s) * Fl.val (X s)) t (j + 1) = (Fl.val (A t) * Fl.val (X t)).natAbs + sufN (fun s => Fl.val (A s) * Fl.val (X s)) (t + 1) j := rfl
    have hEA := suf_le (fun s => Fl.val (A s) * Fl.val (X s)) (t + 1) j
    rw [hE, hA]
    clear hst hsb hs hf hf1 hfe hfp hp hfx hfy hE hA
    generalize Fl.val (A t) * Fl.val (X t) = P at *
    generalize Fl.val (e (t + 1)) = r at *
    generalize Fl.val (e t) = s at *
    generalize Fl.val (fbin .mul (A t) (X t)) = p at *
    generalize Fl.val (e m) = v at *
    generalize 2 ^ 1074 = K at *
    generalize sufI (fun s => Fl.val (A s) * Fl.val (X s)) (t + 1) j = S at *
    generalize sufN (fun s => Fl.val (A s) * Fl.val (X s)) (t + 1) j = B at *
    have hd : s * (K : Int) - (P + S) - v * (K : Int) = (r * (K : Int) - S - v * (K : Int)) + ((s - p) - r) * (K : Int) + (p * (K : Int) - P) := by
      rw [Int.sub_mul, Int.sub_mul]; omega
    have hc2 : 9007199254740992 * (((s - p) - r) * (K : Int)).natAbs ≤ (r * (K : Int)).natAbs + (((s - p) - r) * (K : Int)).natAbs := by
      have e1 : (r - (s - p)).natAbs = (s - p - r).natAbs := by omega
      rw [e1] at hc
      have e2 : (s - p).natAbs ≤ r.natAbs + (s - p - r).natAbs := by omega
      rw [Int.natAbs_mul, Int.natAbs_mul, Int.natAbs_natCast, ← Nat.mul_assoc, ← Nat.add_mul]
      exact Nat.mul_le_mul_right K (Nat.le_trans hc e2)
    rw [hd]
    clear hd hc
    generalize v * (K : Int) = V at *
    generalize r * (K : Int) = R at *
    generalize ((s - p) - r) * (K : Int) = c at *
    generalize p * (K : Int) - P = q at *
    have hX : j * (V.natAbs + B + 4503599627370496 * K) ≤ 60 * (V.natAbs + B + 4503599627370496 * K) := Nat.mul_le_mul_right _ (by omega)
    have hZ : P.natAbs ≤ (j + 1) * P.natAbs := Nat.le_mul_of_pos_left _ (by omega)
    have eR : (j + 1) * (V.natAbs + (P.natAbs + B) + 4503599627370496 * K) = j * (V.natAbs + B + 4503599627370496 * K) + (V.natAbs + B + 4503599627370496 * K) + (j + 1) * P.natAbs := by
      rw [show V.natAbs + (P.natAbs + B) + 4503599627370496 * K = (V.natAbs + B + 4503599627370496 * K) + P.natAbs by omega, Nat.mul_add, Nat.add_mul, Nat.one_mul]
    rw [eR]
    generalize j * (V.natAbs + B + 4503599627370496 * K) = X1 at *
    generalize (j + 1) * P.natAbs = PP at *
    have h1 : 9007199254740991 * c.natAbs ≤ (V.natAbs + B) + (R - S - V).natAbs := by omega
    have hl := tr_lin h1 ih hX hb hZ
    omega
theorem tr_lin2 {Y X A D K g T : Nat} (h1 : 9007199254740992 * g ≤ 2 * Y + 4503599627370496 * D) (h2 : Y ≤ X + g) (hT : 2 * (X + A) + 73786976294838206464 * (K + D) = T) : Y + A + 4503599627370496 * K ≤ T ∧ 4503599627370496 * g ≤ T := by omega
/-- What one row misses, its division too. -/
theorem tr_row {b S V R D : Int} {B K m n : Nat} (hr : 4503599627370496 * (b - S - V).natAbs ≤ m * (V.natAbs + B + 4503599627370496 * K)) (hd : 9007199254740992 * (R - V).natAbs ≤ 2 * V.natAbs + 4503599627370496 * D.natAbs) (hm : m ≤ n) :
    4503599627370496 * (b - S - R).natAbs ≤ (n + 1) * (2 * (R.natAbs + B) + 73786976294838206464 * (K + D.natAbs)) := by
  obtain ⟨T, hT⟩ : ∃ T, 2 * (R.natAbs + B) + 73786976294838206464 * (K + D.natAbs) = T := ⟨_, rfl⟩
  obtain ⟨h1, h2⟩ := tr_lin2 (Y := V.natAbs) hd (by omega) hT
  rw [hT]
  have h3 : m * (V.natAbs + B + 4503599627370496 * K) ≤ m * T := Nat.mul_le_mul_left _ h1
  have h4 : (m + 1) * T ≤ (n + 1) * T := Nat.mul_le_mul_right _ (by omega)
  rw [Nat.add_mul, Nat.one_mul] at h4
  generalize m * (V.natAbs + B + 4503599627370496 * K) = X1 at *
  generalize m * T = X2 at *
  generalize (n + 1) * T = X3 at *
  omega
/-! ### Sums in the order of the columns. -/
theorem sufI_congr {P Q : Nat → Int} : ∀ j t, (∀ s, s < t + j → P s = Q s) → sufI P t j = sufI Q t j ∧ sufN P t j = sufN Q t j
  | 0, _, _ => ⟨rfl, rfl⟩
  | j + 1, t, h => by
    have ih := sufI_congr j (t + 1) (fun s hs => h s (by omega))
    have h0 := h t (by omega)
    exact ⟨by show P t + _ = Q t + _; rw [h0, ih.1], by show (P t).natAbs + _ = (Q t).natAbs + _; rw [h0, ih.2]⟩
theorem suf_snoc (P : Nat → Int) : ∀ j t, sufI P t (j + 1) = sufI P t j + P (t + j) ∧ sufN P t (j + 1) = sufN P t j + (P (t + j)).natAbs
  | 0, t => by show P t + 0 = 0 + P (t + 0) ∧ (P t).natAbs + 0 = 0 + (P (t + 0)).natAbs; simp
  | j + 1, t => by
    have ih := suf_snoc P j (t + 1)
    have e : t + 1 + j = t + (j + 1) := by omega
    rw [e] at ih
    constructor
    · show P t + sufI P (t + 1) (j + 1) = P t + sufI P (t + 1) j + P (t + (j + 1))
      rw [ih.1]; omega
    · show (P t).natAbs + sufN P (t + 1) (j + 1) = (P t).natAbs + sufN P (t + 1) j + (P (t + (j + 1))).natAbs
      rw [ih.2]; omega
theorem suf_shift (P : Nat → Int) (a : Nat) : ∀ j t, sufI (fun s => P (a + s)) t j = sufI P (a + t) j ∧ sufN (fun s => P (a + s)) t j = sufN P (a + t) j
  | 0, _ => ⟨rfl, rfl⟩
  | j + 1, t => by
    have ih := suf_shift P a j (t + 1)
    have e : a + (t + 1) = a + t + 1 := by omega
    rw [e] at ih
    exact ⟨by show P (a + t) + _ = P (a + t) + _; rw [ih.1], by show (P (a + t)).natAbs + _ = (P (a + t)).natAbs + _; rw [ih.2]⟩
/-- The same numbers, from the last to the first. -/
theorem suf_rev (P : Nat → Int) : ∀ j a, sufI (fun s => P (a + j - 1 - s)) 0 j = sufI P a j ∧ sufN (fun s => P (a + j - 1 - s)) 0 j = sufN P a j
  | 0, _ => ⟨rfl, rfl⟩
  | j + 1, a => by
    have ih := suf_rev P j (a + 1)
    have h1 := suf_snoc (fun s => P (a + (j + 1) - 1 - s)) j 0
    have h2 := sufI_congr (P := fun s => P (a + (j + 1) - 1 - s)) (Q := fun s => P (a + 1 + j - 1 - s)) j 0 (fun s _ => by show P _ = P _; congr 1; omega)
    have e : a + (j + 1) - 1 - (0 + j) = a := by omega
    constructor
    · rw [h1.1, h2.1, ih.1]
      show sufI P (a + 1) j + P (a + (j + 1) - 1 - (0 + j)) = P a + sufI P (a + 1) j
      rw [e]; omega
    · rw [h1.2, h2.2, ih.2]
      show sufN P (a + 1) j + (P (a + (j + 1) - 1 - (0 + j))).natAbs = (P a).natAbs + sufN P (a + 1) j
      rw [e]; omega
/-- The sum over the columns, of those that aren't said to be 0. -/
def colI (T : Nat → Bool) (P : Nat → Int) : Nat → Int
  | 0 => 0
  | k + 1 => if T k = true then colI T P k + P k else colI T P k
def colN (T : Nat → Bool) (P : Nat → Int) : Nat → Nat
  | 0 => 0
  | k + 1 => if T k = true then colN T P k + (P k).natAbs else colN T P k
/-- None so far. -/
theorem col_none {T : Nat → Bool} {P : Nat → Int} : ∀ k, (∀ s, s < k → T s = false) → colI T P k = 0 ∧ colN T P k = 0
  | 0, _ => ⟨rfl, rfl⟩
  | k + 1, h => by
    have ih := col_none (P := P) k (fun s hs => h s (by omega))
    have h0 := h k (by omega)
    exact ⟨by show (if T k = true then _ else _) = _; rw [h0]; exact ih.1, by show (if T k = true then _ else _) = _; rw [h0]; exact ih.2⟩
/-- All of those from a on. -/
theorem col_run {T : Nat → Bool} {P : Nat → Int} (a : Nat) : ∀ k, (∀ s, s < k → T (a + s) = true) → colI T P (a + k) = colI T P a + sufI P a k ∧ colN T P (a + k) = colN T P a + sufN P a k
  | 0, _ => by show colI T P a = colI T P a + 0 ∧ colN T P a = colN T P a + 0; simp
  | k + 1, h => by
    have ih := col_run (P := P) a k (fun s hs => h s (by omega))
    have h0 := h k (by omega)
    have h1 := suf_snoc P k a
    constructor
    · show (if T (a + k) = true then colI T P (a + k) + P (a + k) else colI T P (a + k)) = _
      rw [h0, if_pos rfl, ih.1, h1.1]; omega
    · show (if T (a + k) = true then colN T P (a + k) + (P (a + k)).natAbs else colN T P (a + k)) = _
      rw [h0, if_pos rfl, ih.2, h1.2]; omega
/-- None of those from a on. -/
theorem col_rest {T : Nat → Bool} {P : Nat → Int} (a : Nat) : ∀ k, (∀ s, s < k → T (a + s) = false) → colI T P (a + k) = colI T P a ∧ colN T P (a + k) = colN T P a
  | 0, _ => ⟨rfl, rfl⟩
  | k + 1, h => by
    have ih := col_rest (P := P) a k (fun s hs => h s (by omega))
    have h0 := h k (by omega)
    constructor
    · show (if T (a + k) = true then _ else _) = _
      rw [h0]; exact ih.1
    · show (if T (a + k) = true then _ else _) = _
      rw [h0]; exact ih.2
/-- A row's products, in the order of the columns and in that of the steps. -/
theorem col_steps {kd n i : Nat} (hk : kd = 1 ∨ kd = 2 ∨ kd = 3 ∨ kd = 4) (hi : i < n) (P : Nat → Int) : colI (trT kd i) P n = sufI (fun t => P (trO kd n i t)) 0 (trC kd n i) + P i ∧ colN (trT kd i) P n = sufN (fun t => P (trO kd n i t)) 0 (trC kd n i) + (P i).natAbs := by
  by_cases h14 : kd = 1 ∨ kd = 4
  · have hT : ∀ s, trT kd i s = decide (s ≤ i) := fun s => by unfold trT; rw [if_pos h14]
    have hc : trC kd n i = i := by unfold trC; rw [if_pos h14]
    have hO : ∀ t, trO kd n i t = t := fun t => by unfold trO; rw [if_neg (by omega), if_neg (by omega)]
    have h1 := col_run (T := trT kd i) (P := P) 0 (i + 1) (fun s hs => by rw [hT]; simp; omega)
    have h2 := col_rest (T := trT kd i) (P := P) (0 + (i + 1)) (n - (i + 1)) (fun s hs => by rw [hT]; simp; omega)
    have e : 0 + (i + 1) + (n - (i + 1)) = n := by omega
    rw [e] at h2
    have h3 := suf_snoc P i 0
    have h4 := sufI_congr (P := fun t => P (trO kd n i t)) (Q := P) i 0 (fun s _ => by show P _ = P _; rw [hO])
    rw [hc, h2.1, h2.2, h1.1, h1.2, h3.1, h3.2, h4.1, h4.2, Nat.zero_add]
    show (0 : Int) + _ = _ ∧ 0 + _ = _
    omega
  · have hT : ∀ s, trT kd i s = decide (i ≤ s) := fun s => by unfold trT; rw [if_neg h14]
    have hc : trC kd n i = n - 1 - i := by unfold trC; rw [if_neg h14]
    have h1 := col_none (T := trT kd i) (P := P) i (fun s hs => by rw [hT]; simp; omega)
    have h2 := col_run (T := trT kd i) (P := P) i (n - i) (fun s hs => by rw [hT]; simp)
    have e : i + (n - i) = n := by omega
    rw [e, h1.1, h1.2] at h2
    obtain ⟨c, hcd⟩ : ∃ c, n - 1 - i = c := ⟨_, rfl⟩
    have e2 : n - i = c + 1 := by omega
    rw [e2] at h2
    have h5 : sufI P i (c + 1) = P i + sufI P (i + 1) c ∧ sufN P i (c + 1) = (P i).natAbs + sufN P (i + 1) c := ⟨rfl, rfl⟩
    have h6 : sufI (fun t => P (trO kd n i t)) 0 c = sufI P (i + 1) c ∧ sufN (fun t => P (trO kd n i t)) 0 c = sufN P (i + 1) c := by
      by_cases h2k : kd = 2
      · have := suf_rev P c (i + 1)
        have h7 := sufI_congr (P := fun t => P (trO kd n i t)) (Q := fun s => P (i + 1 + c - 1 - s)) c 0 (fun s _ => by
          show P _ = P _
          unfold trO
          rw [if_pos h2k]
          congr 1; omega)
        rw [h7.1, h7.2]; exact this
      · have h3k : kd = 3 := by omega
        have := suf_shift P (i + 1) c 0
        have h7 := sufI_congr (P := fun t => P (trO kd n i t)) (Q := fun s => P (i + 1 + s)) c 0 (fun s _ => by
          show P _ = P _
          unfold trO
          rw [if_neg h2k, if_pos h3k])
        rw [h7.1, h7.2]; exact this
    rw [hc, hcd, h2.1, h2.2, h5.1, h5.2, h6.1, h6.2]
    omega
end Go.Proofs.Ytlhdcajamempoaa
