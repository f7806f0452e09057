/-
Arguments that are lists of ints, and bools, opened. Conditions: none.
-/
import Derived.Test.YtlhdcajamempoaaZVwO
import Derived.Test.YtlhdcajamempoaaSab
set_option linter.unusedVariables false
namespace Go.Proofs.Ytlhdcajamempoaa
open Go.RowKit Go.WideShapes Go.ChangeShapes Go.Deep

/-- The cells of a list of ints. -/
def i64s (l : List Int) : List Value := l.map fun (z : Int) => Value.int .i64 z
theorem i64s_get (l : List Int) (i : Nat) (h : i < l.length) : (i64s l)[i]? = some (.int .i64 l[i]) := by simp [i64s, h]
theorem i64s_get? {l : List Int} {i : Nat} {v : Value} (h : (i64s l)[i]? = some v) : ∃ hi : i < l.length, v = .int .i64 l[i] := by
  unfold i64s at h
  rw [List.getElem?_map] at h
  rcases Nat.lt_or_ge i l.length with hl | hl
  · rw [List.getElem?_eq_getElem hl] at h
    exact ⟨hl, by simpa using h.symm⟩
  · rw [List.getElem?_eq_none hl] at h; cases h

section
variable {H : Type} {enc : TypeId × Value → H} {P : Program} {w : World} {base : Nat} {spare : Nat → Bool} {held : Bool}
theorem open_intc {t e : TypeId} {n : Nat} {v : Value} {y : DataW H × List MemPlace} (ht : P.underlying t = some (.slice e)) (hc : P.cellsOf e = 1) (he : P.underlying e = some (.int .i64))
    (h : DataW.trod enc P w base spare held n t [v] = some y) : ∃ A c l, v = .slice A l.length c ∧ l.length ≤ c ∧ c < 9223372036854775808 ∧ (∀ z ∈ l, I64 z) ∧ Row w A (i64s l) := by
  rcases open_slice1 ht hc h with ⟨h0, _⟩ | ⟨a, len, cap, m, n, V, D, Pl, hcs, hb, hl, hm, hmm, hx, hi⟩
  · refine ⟨none, 0, [], ?_, by simp, by decide, (fun b hb => by cases hb), .inl rfl⟩
    simpa using h0
  · have hle : len ≤ m := by rw [hmm]; split <;> omega
    have hb' : ∀ i, i < len → ∃ b : Int, V i = .int .i64 b ∧ I64 b := fun i h => trod_i64 he (hi i (by omega)).2
    obtain ⟨B, hB⟩ := choose_lt (α := Int) (p := fun i b => V i = .int .i64 b ∧ I64 b) hb'
    have hcap : cap < 9223372036854775808 := by unfold maxLen at hm; omega
    refine ⟨some a, cap, (List.range len).map B, by simpa using hcs, by simpa using hl, hcap, ?_, ?_⟩
    · intro b hb
      obtain ⟨i, hi1, rfl⟩ := List.mem_map.1 hb
      exact (hB i (List.mem_range.1 hi1)).2
    · by_cases hz : len = 0
      · subst hz; exact .inl rfl
      · have h0 := (hi 0 (by omega)).1
        obtain ⟨b, o, s⟩ := a
        have hs : s = none := by
          cases s with
          | none => rfl
          | some s => exfalso; simp [Addr.add, World.cell?] at h0; split at h0 <;> cases h0
        subst hs
        refine .inr ⟨b, o, rfl, fun i v hv => ?_⟩
        obtain ⟨hi1, rfl⟩ := i64s_get? hv
        have hil : i < len := by simpa using hi1
        have := (hi i (by omega)).1
        rw [(hB i hil).1] at this
        rw [add_plain] at this
        rw [this]; simp
theorem open_intl {t e : TypeId} {v : Value} {d : DataW H} {p : List MemPlace} {r : Reach} {b0 : Nat} (ht : P.underlying t = some (.slice e)) (hc : P.cellsOf e = 1) (he : P.underlying e = some (.int .i64))
    (hv : Value.okWide P w r b0 t v) (h : DataW.Trod enc P w base spare held t v d p) : ∃ A c l, v = .slice A l.length c ∧ l.length ≤ c ∧ c < 9223372036854775808 ∧ (∀ z ∈ l, I64 z) ∧ Row w A (i64s l) := by
  obtain ⟨a, len, cap, rfl⟩ := okWide_slice ht hv
  obtain ⟨fuel, hf⟩ := h
  exact open_intc ht hc he (by simpa [Value.cells] using hf)
end
end Go.Proofs.Ytlhdcajamempoaa
/-
An argument that is a byte, opened (OpB's, without its places). Conditions: none.
-/
set_option linter.unusedVariables false
namespace Go.Proofs.Ytlhdcajamempoaa
open Go.RowKit Go.WideShapes Go.ChangeShapes Go.Deep
section
variable {H : Type} {enc : TypeId × Value → H} {P : Program} {w : World} {base : Nat} {spare : Nat → Bool} {held : Bool}
theorem open_u8t {t : TypeId} {v : Value} {d : DataW H} {p : List MemPlace} {r : Reach} {b0 : Nat} (ht : P.underlying t = some (.int .u8)) (hv : Value.okWide P w r b0 t v) (h : DataW.Trod enc P w base spare held t v d p) : ∃ z : Nat, v = .int .u8 (z : Int) ∧ z < 256 := by
  obtain ⟨z, rfl, _, _, hw⟩ := open_int ht hv h
  simp [Lit.wf, IntKind.min, IntKind.max, IntKind.signed, IntKind.bits] at hw
  exact ⟨z.toNat, by rw [Int.toNat_of_nonneg (by omega)], by omega⟩
end
end Go.Proofs.Ytlhdcajamempoaa
/-
Rounding keeps the order; scaling up and back; the word above. Conditions: none beyond what each says.
-/
namespace Go.Proofs.Ytlhdcajamempoaa.Fl

theorem rne_le (n d : Nat) : n / 2 ^ d ≤ rne n d ∧ rne n d ≤ n / 2 ^ d + 1 := by unfold rne; split <;> omega
theorem rne_mono {n1 n2 : Nat} (d : Nat) (h : n1 ≤ n2) : rne n1 d ≤ rne n2 d := by
  have hq : n1 / 2 ^ d ≤ n2 / 2 ^ d := Nat.div_le_div_right h
  by_cases he : n1 / 2 ^ d = n2 / 2 ^ d
  · have e1 := Nat.div_add_mod n1 (2 ^ d)
    have e2 := Nat.div_add_mod n2 (2 ^ d)
    unfold rne
    rw [he] at e1 ⊢
    generalize n1 % 2 ^ d = r1 at *
    generalize n2 % 2 ^ d = r2 at *
    generalize n2 / 2 ^ d = q at *
    have : r1 ≤ r2 := by omega
    by_cases c : 2 ^ d < 2 * r1 ∨ (2 ^ d = 2 * r1 ∧ q % 2 = 1)
    · rw [if_pos c, if_pos (by omega)]; omega
    · rw [if_neg c]; split <;> omega
  · have := (rne_le n1 d).2; have := (rne_le n2 d).1; omega
theorem log2_mono {a b : Nat} (h0 : a ≠ 0) (h : a ≤ b) : a.log2 ≤ b.log2 :=
  (Nat.le_log2 (by omega)).2 (Nat.le_trans (Nat.log2_self_le h0) h)
theorem rnd_mono {n1 n2 : Nat} (d : Nat) (h : n1 ≤ n2) : rnd n1 d ≤ rnd n2 d := by
  by_cases h0 : n1 = 0
  · subst h0; rw [rnd_zero]; omega
  have hl := log2_mono h0 h
  unfold rnd
  by_cases he : n1.log2 - (d + 52) = n2.log2 - (d + 52)
  · rw [he]; have := rne_mono (d + (n2.log2 - (d + 52))) h; omega
  · have a : n1 / 2 ^ (d + (n1.log2 - (d + 52))) < 2 ^ 53 := by
      have hp : 0 < 2 ^ (d + (n1.log2 - (d + 52))) := Nat.two_pow_pos _
      rw [Nat.div_lt_iff_lt_mul hp, ← Nat.pow_add]
      exact Nat.lt_of_lt_of_le Nat.lt_log2_self (Nat.pow_le_pow_right (by omega) (by omega))
    have b : 2 ^ 52 ≤ n2 / 2 ^ (d + (n2.log2 - (d + 52))) := by
      have hp : 0 < 2 ^ (d + (n2.log2 - (d + 52))) := Nat.two_pow_pos _
      rw [Nat.le_div_iff_mul_le hp, ← Nat.pow_add]
      exact Nat.le_trans (Nat.pow_le_pow_right (by omega) (by omega)) (Nat.log2_self_le (by omega))
    have := (rne_le n1 (d + (n1.log2 - (d + 52)))).2
    have := (rne_le n2 (d + (n2.log2 - (d + 52)))).1
    have ht : n1.log2 - (d + 52) < n2.log2 - (d + 52) := by omega
    generalize n1.log2 - (d + 52) = t1 at *
    generalize n2.log2 - (d + 52) = t2 at *
    generalize n1 / 2 ^ (d + t1) = q1 at *
    generalize n2 / 2 ^ (d + t2) = q2 at *
    omega
theorem cap_mono {a b : Nat} (h : a ≤ b) : cap a ≤ cap b := by unfold cap; omega
theorem scl_mono {m1 m2 : Nat} (k : Int) (h : m1 ≤ m2) : scl m1 k ≤ scl m2 k := by
  unfold scl
  split
  · exact cap_mono (rnd_mono _ (Nat.mul_le_mul_right _ h))
  · exact cap_mono (rnd_mono _ h)

theorem mag_small {x : Nat} (h : x < 9007199254740992) : mag x = x := by
  unfold mag
  by_cases h1 : x < 4503599627370496
  · rw [if_pos h1]
  · rw [if_neg h1, show x / 4503599627370496 - 1 = 0 by omega]; simp; omega
theorem mag_place {m q : Nat} (h1 : 4503599627370496 ≤ m) (h2 : m < 9007199254740992) : mag (q * 4503599627370496 + m) = m * 2 ^ q := by
  unfold mag
  rw [if_neg (by omega), show (q * 4503599627370496 + m) / 4503599627370496 - 1 = q by omega, show 4503599627370496 + (q * 4503599627370496 + m) % 4503599627370496 = m by omega]
/-- What isn't too great is scaled up without rounding. -/
theorem scl_mag {m q : Nat} (hm : m < 9007199254740992) (h : scl m q < INF) : mag (scl m q) = m * 2 ^ q := by
  by_cases h0 : m = 0
  · subst h0; rw [scl_zero]; simp [mag]
  have hI := INF_val
  have hl : m.log2 < 53 := (Nat.log2_lt h0).2 hm
  by_cases hc : m.log2 + q ≤ 52
  · have hx : m * 2 ^ q < 9007199254740992 := by
      have h1 : m < 2 ^ (m.log2 + 1) := Nat.lt_log2_self
      have h2 : m * 2 ^ q < 2 ^ (m.log2 + 1) * 2 ^ q := Nat.mul_lt_mul_of_pos_right h1 (Nat.two_pow_pos q)
      rw [← Nat.pow_add] at h2
      have h3 : 2 ^ (m.log2 + 1 + q) ≤ 2 ^ 53 := Nat.pow_le_pow_right (by omega) (by omega)
      omega
    have e := scl_shift m q 0
    rw [Int.add_zero] at e
    have e2 := scl_exact (m * 2 ^ q) 0 hx (.inr rfl)
    rw [show ((0 : Nat) : Int) = 0 from rfl] at e2
    rw [← e, e2]
    have : cap (0 * 4503599627370496 + m * 2 ^ q) = m * 2 ^ q := by unfold cap; omega
    rw [this, mag_small hx]
  · have hj : 52 - m.log2 ≤ q := by omega
    have hlo : 4503599627370496 ≤ m * 2 ^ (52 - m.log2) := by
      have := Nat.mul_le_mul_right (2 ^ (52 - m.log2)) (Nat.log2_self_le h0)
      rw [← Nat.pow_add, show m.log2 + (52 - m.log2) = 52 by omega] at this
      exact this
    have hhi : m * 2 ^ (52 - m.log2) < 9007199254740992 := by
      have h1 : m < 2 ^ (m.log2 + 1) := Nat.lt_log2_self
      have h2 := Nat.mul_lt_mul_of_pos_right h1 (Nat.two_pow_pos (52 - m.log2))
      rw [← Nat.pow_add, show m.log2 + 1 + (52 - m.log2) = 53 by omega] at h2
      exact h2
    have e := scl_shift m (52 - m.log2) ((q - (52 - m.log2) : Nat) : Int)
    rw [show ((52 - m.log2 : Nat) : Int) + ((q - (52 - m.log2) : Nat) : Int) = q by omega] at e
    have e2 := scl_exact (m * 2 ^ (52 - m.log2)) (q - (52 - m.log2)) hhi (.inl hlo)
    rw [← e, e2] at h ⊢
    have hcap : cap ((q - (52 - m.log2)) * 4503599627370496 + m * 2 ^ (52 - m.log2)) = (q - (52 - m.log2)) * 4503599627370496 + m * 2 ^ (52 - m.log2) := by
      unfold cap at h ⊢; omega
    rw [hcap, mag_place hlo hhi, Nat.mul_assoc, ← Nat.pow_add]
    congr 2; omega
theorem scl_self {b : Nat} (h : rung b < INF) : scl (mag (rung b)) 0 = rung b := by
  have := scl_exact (pm b) (pe b) (pm_lt b) (pm_pe b)
  rw [← rung_parts] at this
  rw [scale_parts, Int.add_zero, this]
  unfold cap; omega

theorem scale_back {b : Nat} (hb : b < 18446744073709551616) (n : Nat) (h1 : rung b < INF) (h2 : rung (scale b n) < INF) : scale (scale b n) (-(n : Int)) = b := by
  have hI := INF_val
  by_cases h0 : rung b = 0
  · have e : scale b n = b := by unfold scale; rw [if_pos (.inl h0)]
    rw [e]; unfold scale; rw [if_pos (.inl h0)]
  · have e : scale b n = wd (sg b) (scl (mag (rung b)) n) := by unfold scale; rw [if_neg (by omega)]
    have hlt : scl (mag (rung b)) n < 9223372036854775808 := Nat.lt_of_le_of_lt (scl_le _ _) (by omega)
    rw [e, rung_wd _ hlt] at h2
    have hm : mag (scl (mag (rung b)) n) = mag (rung b) * 2 ^ n := by
      rw [scale_parts, show (pe b : Int) + (n : Int) = ((pe b + n : Nat) : Int) by omega] at h2 ⊢
      rw [scl_mag (pm_lt b) h2, mag_parts, Nat.mul_assoc, ← Nat.pow_add]
    have hpos : 0 < mag (rung b) := by have := mag_lt (r := 0) (s := rung b) (by omega); omega
    have hr : scl (mag (rung b)) n ≠ 0 := by
      intro h
      rw [h, mag_zero] at hm
      have : 0 < mag (rung b) * 2 ^ n := Nat.mul_pos hpos (Nat.two_pow_pos n)
      omega
    rw [e]
    unfold scale
    rw [rung_wd _ hlt, sg_wd _ hlt, if_neg (by omega), hm, scl_shift, show (n : Int) + -(n : Int) = 0 by omega, scl_self h1, wd_parts hb]

theorem key_wd (s : Bool) {r : Nat} (h : r < 9223372036854775808) : key (wd s r) = if s then -(r : Int) else (r : Int) := by
  unfold key; rw [sg_wd s h, rung_wd s h]
theorem rung_scale (b : Nat) (k : Int) (h : rung b ≤ INF) : rung (scale b k) ≤ INF := by
  have hI := INF_val
  unfold scale; split
  · exact h
  · rw [rung_wd _ (Nat.lt_of_le_of_lt (scl_le _ _) (by omega))]; exact scl_le _ _
theorem key_scale (b : Nat) (k : Int) (h : rung b < INF) : key (scale b k) = if sg b then -(scl (mag (rung b)) k : Int) else (scl (mag (rung b)) k : Int) := by
  have hI := INF_val
  unfold scale
  by_cases h0 : rung b = 0
  · rw [if_pos (.inl h0), h0, mag_zero, scl_zero]
    unfold key; rw [h0]
  · rw [if_neg (by omega), key_wd _ (Nat.lt_of_le_of_lt (scl_le _ _) (by omega))]
theorem key_scale_inf (b : Nat) (k : Int) (h : rung b = INF) : key (scale b k) = if sg b then -(INF : Int) else (INF : Int) := by
  unfold scale
  rw [if_pos (.inr (by omega))]; unfold key; rw [h]
theorem scale_mono {b c : Nat} (k : Int) (hb : rung b ≤ INF) (hc : rung c ≤ INF) (h : key b ≤ key c) : key (scale b k) ≤ key (scale c k) := by
  have mono : ∀ r s : Nat, r ≤ s → scl (mag r) k ≤ scl (mag s) k := fun r s hrs => scl_mono k ((mag_le_iff r s).2 hrs)
  have l1 := scl_le (mag (rung b)) k
  have l2 := scl_le (mag (rung c)) k
  have m1 := mono (rung b) (rung c)
  have m2 := mono (rung c) (rung b)
  have z1 : rung b = 0 → scl (mag (rung b)) k = 0 := by intro h; rw [h, mag_zero, scl_zero]
  have z2 : rung c = 0 → scl (mag (rung c)) k = 0 := by intro h; rw [h, mag_zero, scl_zero]
  unfold key at h
  by_cases hb1 : rung b = INF
  · rw [key_scale_inf b k hb1]
    by_cases hc1 : rung c = INF
    · rw [key_scale_inf c k hc1, ← hb1]; rw [hc1, ← hb1] at h; exact h
    · rw [key_scale c k (by omega)]
      cases hs : sg b <;> cases ht : sg c <;> simp [hs, ht] at h ⊢ <;> omega
  · rw [key_scale b k (by omega)]
    by_cases hc1 : rung c = INF
    · rw [key_scale_inf c k hc1]
      cases hs : sg b <;> cases ht : sg c <;> simp [hs, ht] at h ⊢ <;> omega
    · rw [key_scale c k (by omega)]
      cases hs : sg b <;> cases ht : sg c <;> simp [hs, ht] at h ⊢ <;> omega
end Go.Proofs.Ytlhdcajamempoaa.Fl
